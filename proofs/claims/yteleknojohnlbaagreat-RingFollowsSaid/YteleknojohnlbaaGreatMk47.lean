/-
  A device that holds a log: what is written on it, and read of it, where nothing goes wrong; in plain words. A log that grows, transaction by transaction, where nothing goes wrong; what is told of it: in plain words. A device that is blank, in plain words; what is told of a log whose sectors are damaged. law11.Blank, walked: a device whose sectors are all free.
-/
import Derived.Test.YteleknojohnlbaaGreatMk46
import Derived.Test.YteleknojohnlbaaGreatMk43
import Derived.Test.YteleknojohnlbaaGreatMk10
import Derived.Test.YteleknojohnlbaaGreatMk9
import Derived.Test.YteleknojohnlbaaGreatMk33
import Derived.Test.YteleknojohnlbaaGreatMk14
namespace Go.Proofs.YteleknojohnlbaaGreat
open Go.RowKit
set_option linter.unusedVariables false
set_option maxRecDepth 100000
def adN (g : Gn) (c s : Nat) : Nat := 4 + c * g.W + s
theorem adN_eq (g : Gn) (c s : Nat) : (adN g c s : Int) = addrR g.ge (c : Int) (s : Int) := by
  show ((4 + c * g.W + s : Nat) : Int) = 4 + (c : Int) * (g.W : Int) + (s : Int)
  rw [Int.natCast_add, Int.natCast_add, Int.natCast_mul]
  rfl
theorem adN_inj {g : Gn} {c c' s s' : Nat} (hc : c < 2) (hc' : c' < 2) (hs : s < g.W) (hs' : s' < g.W) (h : adN g c s = adN g c' s') : c = c' ∧ s = s' := by
  unfold adN at h
  obtain rfl | rfl : c = 0 ∨ c = 1 := by omega
  · obtain rfl | rfl : c' = 0 ∨ c' = 1 := by omega
    · omega
    · omega
  · obtain rfl | rfl : c' = 0 ∨ c' = 1 := by omega
    · omega
    · omega
theorem adN_lt {g : Gn} {c s N : Nat} (hc : c < 2) (hs : s < g.W) (hN : 4 + 2 * g.W ≤ N) : adN g c s < N := by
  unfold adN
  obtain rfl | rfl : c = 0 ∨ c = 1 := by omega
  · omega
  · omega
def OnDev (vol : Int) (g : Gn) (d : Dev) (c s : Nat) : Ct → Prop
  | .free => HasZ d (adN g c s) (sectZ (fbk vol (adN g c s : Int)))
  | .pc q => HasZ d (adN g c s) (sectR vol g.ge (c : Int) q) ∧ rokB vol g.ge 0 q = true ∧ q.seq % g.ge.wal = (s : Int) ∧ ∀ y ∈ q.B, y < 256
  | .bad => d.lost (adN g c s) = true ∨ opensB 256 (d.has (adN g c s)) = false
def DevL (vol : Int) (g : Gn) (d : Dev) (C : Nat → Nat → Ct) : Prop := ∀ c s : Nat, c < 2 → s < g.W → OnDev vol g d c s (C c s)
theorem OnDev.same {vol : Int} {g : Gn} {d d' : Dev} {c s : Nat} {ct : Ct} (h : OnDev vol g d c s ct) (e1 : d'.has (adN g c s) = d.has (adN g c s)) (e2 : d'.lost (adN g c s) = d.lost (adN g c s)) : OnDev vol g d' c s ct := by
  have hz : ∀ z, HasZ d (adN g c s) z → HasZ d' (adN g c s) z := fun z h => ⟨by rw [e2]; exact h.1, fun i hi => by rw [e1]; exact h.2 i hi⟩
  cases ct with
  | free => exact hz _ h
  | pc q => exact ⟨hz _ h.1, h.2⟩
  | bad => exact h.imp (fun h => by rw [e2]; exact h) (fun h => by rw [e1]; exact h)
def setC (C : Nat → Nat → Ct) (sl : Nat) (q : Pn) (c s : Nat) : Ct := if s = sl then .pc q else C c s
def slN (g : Gn) (q : Pn) : Nat := (q.seq % g.ge.wal).toNat
theorem slN_eq {g : Gn} (hg : g.Ok) {q : Pn} : (slN g q : Int) = q.seq % g.ge.wal ∧ slN g q < g.W := by
  have hw : g.ge.wal = (g.W : Int) := rfl
  have h1 := hg.w1
  have h2 : 0 ≤ q.seq % g.ge.wal := Int.emod_nonneg _ (by omega)
  have h3 : q.seq % g.ge.wal < g.ge.wal := Int.emod_lt_of_pos _ (by omega)
  unfold slN
  exact ⟨Int.toNat_of_nonneg h2, by omega⟩
theorem put_at {g : Gn} (hg : g.Ok) {x : Rg} (hx : x.g = g.ge) {q : Pn} (c : Nat) : putR x q c = ⟨(adN g c (slN g q) : Int), 256, sectR x.vol g.ge (c : Int) q⟩ := by
  unfold putR
  rw [hx, adN_eq, (slN_eq hg).1]
section
variable {vol : Int} {g : Gn} {N : Nat} {d : Dev} {C : Nat → Nat → Ct}
theorem write_fine (hg : g.Ok) (hN : 4 + 2 * g.W ≤ N) (h : Fine N d) (hL : DevL vol g d C) {x : Rg} {q : Pn} (hv : x.vol = vol) (hx : x.g = g.ge) (hr : rokB vol g.ge 0 q = true) (hb : ∀ y ∈ q.B, y < 256) :
    wrE x q d = 0 ∧ Fine N (wrD x q d) ∧ DevL vol g (wrD x q d) (setC C (slN g q) q) := by
  obtain ⟨s1, s2⟩ := slN_eq hg (q := q)
  have a0 := adN_lt (c := 0) (by omega) s2 hN
  have a1 := adN_lt (c := 1) (by omega) s2 hN
  obtain ⟨e1, f1, z1, o1⟩ := kep_fine (j := 3) a0 (sectR vol g.ge ((0 : Nat) : Int) q) h
  obtain ⟨e2, f2, z2, o2⟩ := kep_fine (j := 3) a1 (sectR vol g.ge ((1 : Nat) : Int) q) f1
  have p0 := put_at hg hx (q := q) 0
  have p1 := put_at hg hx (q := q) 1
  rw [hv] at p0 p1
  have hall : allTo (putR x q) d 2 = ⟨kepD 4 (kepD 4 d (putR x q 0)) (putR x q 1), kepE 4 (kepD 4 d (putR x q 0)) (putR x q 1)⟩ := by
    show (if (allTo (putR x q) d 1).e = 0 then _ else _) = _
    have h1 : allTo (putR x q) d 1 = ⟨kepD 4 d (putR x q 0), kepE 4 d (putR x q 0)⟩ := if_pos rfl
    rw [h1, p0, if_pos e1]
  unfold wrE wrD
  rw [hall, p0, p1]
  refine ⟨e2, f2, fun c s hc hs => ?_⟩
  unfold setC
  by_cases q1 : s = slN g q
  · rw [if_pos q1]
    subst q1
    refine ⟨?_, hr, s1.symm, hb⟩
    obtain rfl | rfl : c = 0 ∨ c = 1 := by omega
    · have ne : adN g 0 (slN g q) ≠ adN g 1 (slN g q) := fun e => by have := (adN_inj (by omega) (by omega) s2 s2 e).1; omega
      obtain ⟨g1, g2⟩ := o2 _ ne
      exact ⟨g2.trans z1.1, fun i hi => (congrFun g1 i).trans (z1.2 i hi)⟩
    · exact z2
  · rw [if_neg q1]
    have n0 : adN g c s ≠ adN g 0 (slN g q) := fun e => q1 (adN_inj hc (by omega) hs s2 e).2
    have n1 : adN g c s ≠ adN g 1 (slN g q) := fun e => q1 (adN_inj hc (by omega) hs s2 e).2
    obtain ⟨g1, g2⟩ := o1 _ n0
    obtain ⟨g3, g4⟩ := o2 _ n1
    exact (hL c s hc hs).same (g3.trans g1) (g4.trans g2)
theorem ld_reads (h : Qt N d) (hg : g.Ok) (hN : 4 + 2 * g.W ≤ N) {c : Nat} (hc : c < 2) : ∀ k, k ≤ g.W → ldD g.ge (c : Int) d k = { d with ops := d.ops + k }
  | 0, _ => rfl
  | k + 1, hk => by
    have ih := ld_reads h hg hN hc k (by omega)
    show readD (ldD g.ge (c : Int) d k) (addrR g.ge (c : Int) (k : Int)) = _
    rw [ih, ← adN_eq, ((h.ops (d.ops + k)).read (adN_lt hc (by omega) hN)).2.1]
    rfl
theorem ld_slot (h : Qt N d) (hg : g.Ok) (hN : 4 + 2 * g.W ≤ N) {c s : Nat} (hc : c < 2) (hs : s < g.W) : ldN g.ge (c : Int) d s = (if d.lost (adN g c s) then 0 else 256) ∧ ldZ g.ge (c : Int) d s = d.has (adN g c s) := by
  obtain ⟨r1, _, r3⟩ := (h.ops (d.ops + s)).read (adN_lt hc hs hN)
  unfold ldN ldZ
  rw [ld_reads h hg hN hc s (by omega), ← adN_eq]
  refine ⟨?_, r3⟩
  unfold readL
  rw [r1]
  show (if (if d.lost (adN g c s) then (20 : Int) else 0) = 0 then 256 else 0) = _
  cases d.lost (adN g c s) <;> rfl
theorem ld_shows (h : Qt N d) (hg : g.Ok) (hN : 4 + 2 * g.W ≤ N) {c s : Nat} (hc : c < 2) (hs : s < g.W) {ct : Ct} (ho : OnDev vol g d c s ct) : ShowsC vol g.ge (c : Int) (s : Int) (ldN g.ge (c : Int) d s) (ldZ g.ge (c : Int) d s) ct := by
  obtain ⟨e1, e2⟩ := ld_slot h hg hN hc hs
  rw [e1, e2]
  cases ct with
  | free =>
    have ho' : HasZ d (adN g c s) (sectZ (fbk vol (adN g c s : Int))) := ho
    rw [ho'.1]
    refine ⟨rfl, fun i hi => ?_⟩
    rw [← adN_eq]
    exact ho'.2 i hi
  | pc q =>
    obtain ⟨hz, hr, hsl, hb⟩ := ho
    rw [hz.1]
    exact ⟨rok_mirs hr hc, rfl, hz.2, hsl, hb⟩
  | bad =>
    show opensB _ _ = false
    have ho' : d.lost (adN g c s) = true ∨ opensB 256 (d.has (adN g c s)) = false := ho
    cases hl : d.lost (adN g c s)
    · exact ho'.resolve_left (by rw [hl]; decide)
    · rw [if_pos rfl]; rfl
def miOf (vol : Int) (g : Gn) (d : Dev) (A0 A1 : Option Addr) (C0 C1 : Nat) : Mi :=
  ⟨vol, g, fun c => if c = 0 then A0 else A1, fun c => if c = 0 then C0 else C1, fun c => if c = 0 then ldN g.ge 0 d else ldN g.ge 1 (ldD g.ge 0 d g.W), fun c => if c = 0 then ldZ g.ge 0 d else ldZ g.ge 1 (ldD g.ge 0 d g.W)⟩
theorem logM_of (h : Qt N d) (hg : g.Ok) (hN : 4 + 2 * g.W ≤ N) (hv : 0 ≤ vol ∧ vol ≤ 4294967295) (hL : DevL vol g d C) (A0 A1 : Option Addr) (C0 C1 : Nat) : LogM (miOf vol g d A0 A1 C0 C1) C := by
  refine ⟨hg, hv, fun c s hc hs => ?_⟩
  obtain rfl | rfl : c = 0 ∨ c = 1 := by omega
  · exact ld_shows h hg hN (c := 0) (by omega) hs (hL 0 s (by omega) hs)
  · have e := ld_reads h hg hN (c := 0) (by omega) g.W (Nat.le_refl _)
    have e' : ldD g.ge 0 d g.W = { d with ops := d.ops + g.W } := e
    show ShowsC vol g.ge ((1 : Nat) : Int) (s : Int) (ldN g.ge 1 (ldD g.ge 0 d g.W) s) (ldZ g.ge 1 (ldD g.ge 0 d g.W) s) (C 1 s)
    rw [e']
    exact ld_shows (h.ops _) hg hN (c := 1) (by omega) hs ((hL 1 s (by omega) hs).same rfl rfl)
end
end Go.Proofs.YteleknojohnlbaaGreat
namespace Go.Proofs.YteleknojohnlbaaGreat
open Go.RowKit
set_option linter.unusedVariables false
set_option maxRecDepth 100000
structure LogS (Old : Ct → Prop) (vol : Int) (g : Gn) (st : Nat) (ch0 : Int) (d : Dev) (x : Rg) (C : Nat → Nat → Ct) (P : List Pn) : Prop where
  dev : DevL vol g d C
  pcs : ∀ (i : Nat) (q : Pn), P[i]? = some q → q.seq = ((st + i : Nat) : Int) ∧ ∀ c, c < 2 → C c ((st + i) % g.W) = .pc q
  rest : ∀ s, s < g.W → (∀ i, i < P.length → s ≠ (st + i) % g.W) → ∀ c, c < 2 → Old (C c s)
  fits : FitsL (sumR vol g.ge) pn0 ch0 P
  aft : RgAft (endA pn0 P) (endS (sumR vol g.ge) ch0 P) x
  ok : RgOk x
  vx : x.vol = vol
  gx : x.g = g.ge
  start : x.start = (st : Int)
  next : x.next = ((st + P.length : Nat) : Int)
  le : P.length ≤ g.W
theorem mod_ne {st i j W : Nat} (hi : i < W) (hj : j < W) (h : i ≠ j) : (st + i) % W ≠ (st + j) % W := fun e => by
  have h1 := Nat.div_add_mod (st + i) W
  have h2 := Nat.div_add_mod (st + j) W
  rw [e] at h1
  have h3 : (st + i : Nat) + W * ((st + j) / W) = (st + j) + W * ((st + i) / W) := by omega
  rcases Nat.lt_trichotomy ((st + i) / W) ((st + j) / W) with q | q | q
  · have := Nat.mul_le_mul_left W (show (st + i) / W + 1 ≤ (st + j) / W from q)
    rw [Nat.mul_add, Nat.mul_one] at this
    omega
  · rw [q] at h3; omega
  · have := Nat.mul_le_mul_left W (show (st + j) / W + 1 ≤ (st + i) / W from q)
    rw [Nat.mul_add, Nat.mul_one] at this
    omega
section
variable {Old : Ct → Prop} {vol : Int} {g : Gn} {st N : Nat} {ch0 : Int} {d : Dev} {x : Rg} {C : Nat → Nat → Ct} {P : List Pn}
theorem LogS.piece (h : LogS Old vol g st ch0 d x C P) (hg : g.Ok) (hN : 4 + 2 * g.W ≤ N) (hf : Fine N d) (hP : P.length < g.W) (hn : x.next + 1 ≤ 4294967295) {o : Int} (ho : 1 ≤ o ∧ o ≤ 64) {i : Nat} (hi : (i : Int) < o) {B : List Nat} (hB : ∀ y ∈ B, y < 256) :
    wrE x (apQ o B x i) d = 0 ∧ Fine N (wrD x (apQ o B x i) d) ∧ LogS Old vol g st ch0 (wrD x (apQ o B x i) d) (nxR x (apQ o B x i) 0) (setC C ((st + P.length) % g.W) (apQ o B x i)) (P ++ [apQ o B x i]) := by
  have hrok := ap_rok (B := B) h.ok ho hi
  rw [h.vx, h.gx] at hrok
  have hqb : ∀ y ∈ (apQ o B x i).B, y < 256 := pcB_b hB i
  obtain ⟨e1, e2, e3⟩ := write_fine hg hN hf h.dev h.vx h.gx hrok hqb
  obtain ⟨q, hq⟩ : ∃ q, q = apQ o B x i := ⟨_, rfl⟩
  have hqs : q.seq = ((st + P.length : Nat) : Int) := by rw [hq]; exact h.next
  have hsl : slN g q = (st + P.length) % g.W := by
    unfold slN
    rw [hqs, show g.ge.wal = (g.W : Int) from rfl, ← Int.natCast_emod]
    exact Int.toNat_natCast _
  have haf := aft_fits h.aft o B i
  have hax := aft_next o B x i
  rw [← hq] at e1 e2 e3 hrok hqb haf hax ⊢
  rw [hsl] at e3
  refine ⟨e1, e2, e3, ?_, ?_, ?_, ?_, ?_, ?_, ?_, ?_, ?_, ?_⟩
  · intro j p hj
    by_cases c : j < P.length
    · rw [List.getElem?_append_left c] at hj
      obtain ⟨h1, h2⟩ := h.pcs j p hj
      refine ⟨h1, fun m hm => ?_⟩
      unfold setC
      rw [if_neg (mod_ne (by omega) hP (by omega))]
      exact h2 m hm
    · have hj2 : j = P.length := by
        have := (List.getElem?_eq_some_iff.1 hj).1
        rw [List.length_append] at this
        simp only [List.length_cons, List.length_nil] at this
        omega
      subst hj2
      rw [List.getElem?_append_right (Nat.le_refl _), Nat.sub_self] at hj
      injection hj with hj
      subst hj
      exact ⟨hqs, fun m hm => if_pos rfl⟩
  · intro s hs hne c hc
    have hs1 : s ≠ (st + P.length) % g.W := hne P.length (by rw [List.length_append]; simp)
    unfold setC
    rw [if_neg hs1]
    exact h.rest s hs (fun j hj => hne j (by rw [List.length_append]; omega)) c hc
  · exact fits_app h.fits ⟨haf, trivial⟩
  · rw [endA_app, endS_app]
    rw [h.vx, h.gx] at hax
    exact hax
  · rw [nx0]
    refine ⟨h.ok.may, h.ok.vol, h.ok.ep, ?_, sumR_word hqb, hn, ?_⟩
    · show 0 ≤ x.fr ∧ x.fr ≤ x.next + 1; have := h.ok.fr; omega
    · show 0 ≤ x.start ∧ x.start ≤ x.next + 1; have := h.ok.st; omega
  · rw [nx0]; exact h.vx
  · rw [nx0]; exact h.gx
  · rw [nx0]; exact h.start
  · rw [nx0]
    show x.next + 1 = _
    rw [h.next, List.length_append]
    simp only [List.length_cons, List.length_nil]
    omega
  · rw [List.length_append]; simp only [List.length_cons, List.length_nil]; omega
theorem LogS.pieces (h : LogS Old vol g st ch0 d x C P) (hg : g.Ok) (hN : 4 + 2 * g.W ≤ N) (hf : Fine N d) {o : Nat} (ho : 1 ≤ o ∧ o ≤ 64) (hP : P.length + o ≤ g.W) (hn : x.next + (o : Int) ≤ 4294967295) {B : List Nat} (hB : ∀ y ∈ B, y < 256) :
    ∀ k, k ≤ o → ∃ C' d', apL (o : Int) B ⟨d, x, 0⟩ (List.range k) = ⟨d', ringTo (o : Int) B x k, 0⟩ ∧ Fine N d' ∧ LogS Old vol g st ch0 d' (ringTo (o : Int) B x k) C' (P ++ txP (o : Int) B x k)
  | 0, _ => ⟨C, d, rfl, hf, by simp only [txP, List.range_zero, List.map_nil, List.append_nil]; exact h⟩
  | k + 1, hk => by
    obtain ⟨C', d', e1, f1, l1⟩ := LogS.pieces h hg hN hf ho hP hn hB k (by omega)
    have hlen : (P ++ txP (o : Int) B x k).length = P.length + k := by rw [List.length_append, txP_len]
    obtain ⟨a1, a2, a3⟩ := l1.piece hg hN f1 (by rw [hlen]; omega) (by rw [(ring_to (o : Int) B x k).next]; omega) (o := (o : Int)) ⟨by omega, by omega⟩ (i := k) (by omega) hB
    refine ⟨setC C' ((st + (P ++ txP (o : Int) B x k).length) % g.W) (apQ (o : Int) B (ringTo (o : Int) B x k) k), wrD (ringTo (o : Int) B x k) (apQ (o : Int) B (ringTo (o : Int) B x k) k) d', ?_, a2, ?_⟩
    · rw [List.range_succ, apL_snoc, e1]
      unfold apStep
      rw [if_pos rfl]
      simp only [a1]
      rfl
    · rw [txP_snoc, ← List.append_assoc]
      exact a3
theorem LogS.app (h : LogS Old vol g st ch0 d x C P) (hg : g.Ok) (hN : 4 + 2 * g.W ≤ N) (hf : Fine N d) {B : List Nat} (hB : ∀ y ∈ B, y < 256) (he : apE0 x B.length = 0) :
    ∃ C' d', appS x B d = ⟨d', ringTo (cntR B.length) B x (cntN B.length), 0⟩ ∧ Fine N d' ∧ LogS Old vol g st ch0 d' (ringTo (cntR B.length) B x (cntN B.length)) C' (P ++ txP (cntR B.length) B x (cntN B.length)) := by
  have hc := cntN_eq B.length
  have hp := cntN_pos B.length
  obtain ⟨h1, h2, h3⟩ : ¬ 64 < cntR B.length ∧ ¬ x.g.wal < x.next + cntR B.length - x.start ∧ ¬ 4294967295 < x.next + cntR B.length := by
    unfold apE0 at he
    by_cases q : 64 < cntR B.length
    · rw [if_pos q] at he; cases he
    · rw [if_neg q] at he
      by_cases r : x.g.wal < x.next + cntR B.length - x.start ∨ 4294967295 < x.next + cntR B.length
      · rw [if_pos r] at he; cases he
      · exact ⟨q, fun e => r (Or.inl e), fun e => r (Or.inr e)⟩
  have hw : x.g.wal = (g.W : Int) := by rw [h.gx]; rfl
  have hnx := h.next
  have hst := h.start
  unfold appS
  rw [if_pos he, ← hc]
  exact h.pieces hg hN hf (o := cntN B.length) ⟨hp, by omega⟩ (by omega) (by omega) hB (cntN B.length) (Nat.le_refl _)
end
section
variable {Old : Ct → Prop} {vol : Int} {g : Gn} {st N : Nat} {ch0 : Int} {d : Dev} {x : Rg} {C : Nat → Nat → Ct} {T : List (List Pn)}
end
end Go.Proofs.YteleknojohnlbaaGreat
namespace Go.Proofs.YteleknojohnlbaaGreat
open Go.RowKit
set_option linter.unusedVariables false
set_option maxRecDepth 100000
def bkTo (vol : Int) (n : Nat) : Nat → Dev
  | 0 => dev0 n
  | k + 1 => writeD (bkTo vol n k) (k : Int) 256 (sectZ (fbk vol (k : Int)))
def bkD (vol : Int) (n : Nat) : Dev := flushD (bkTo vol n n)
def bkW (vol : Int) (k : Nat) : List Wt := (List.range k).map fun a => ⟨a, sectZ (fbk vol (a : Int))⟩
theorem bk_to (vol : Int) (n : Nat) : ∀ k, k ≤ n → bkTo vol n k = { dev0 n with ops := k, W := bkW vol k }
  | 0, _ => rfl
  | k + 1, hk => by
    have ih := bk_to vol n k (by omega)
    have hb : hasB { dev0 n with ops := k, W := bkW vol k } (k : Int) = true := decide_eq_true (by show (0 : Int) ≤ (k : Int) ∧ (k : Int) < (n : Int); omega)
    have ho : openE { dev0 n with ops := k, W := bkW vol k } (k : Int) = 0 := by unfold openE; rw [hb]; rfl
    show writeD (bkTo vol n k) (k : Int) 256 _ = _
    rw [ih]
    unfold writeD
    rw [if_pos ⟨ho, rfl⟩, Int.toNat_natCast]
    unfold bkW
    rw [List.range_succ, List.map_append]
    rfl
theorem bk_last (vol : Int) (a : Nat) : ∀ k, lastW (bkW vol k) a = if a < k then some ⟨a, sectZ (fbk vol (a : Int))⟩ else none
  | 0 => rfl
  | k + 1 => by
    unfold bkW
    rw [List.range_succ, List.map_append, List.map_cons, List.map_nil, lastW_snoc]
    show (if k = a then _ else lastW (bkW vol k) a) = _
    rw [bk_last vol a k]
    by_cases q : k = a
    · subst q; rw [if_pos rfl, if_pos (by omega)]
    · rw [if_neg q]
      by_cases r : a < k
      · rw [if_pos r, if_pos (by omega)]
      · rw [if_neg r, if_neg (by omega)]
theorem bk_flush (vol : Int) (n : Nat) : bkD vol n = { finAll { dev0 n with ops := n, W := bkW vol n } (bkW vol n) with W := [] } := by
  unfold bkD
  rw [bk_to vol n n (Nat.le_refl _)]
  rfl
theorem bk_fine (vol : Int) (n : Nat) : Fine n (bkD vol n) ∧ (∀ a, a < n → HasZ (bkD vol n) a (sectZ (fbk vol (a : Int)))) ∧ (bkD vol n).ops = n := by
  rw [bk_flush]
  obtain ⟨h1, h2, h3, h4, h5, h6⟩ := finAll_same (bkW vol n) { dev0 n with ops := n, W := bkW vol n }
  have hn : (finAll { dev0 n with ops := n, W := bkW vol n } (bkW vol n)).n = n := finAll_n _ _
  refine ⟨⟨⟨hn, h4, h5, rfl⟩, fun a => (congrFun h2 a).trans rfl, fun a => (congrFun h3 a).trans rfl⟩, fun a ha => ?_, h1⟩
  obtain ⟨g1, g2⟩ := finAll_has { dev0 n with ops := n, W := bkW vol n } a (bkW vol n)
  rw [bk_last, if_pos ha] at g1 g2
  exact ⟨g2, fun c hc => congrFun g1 c⟩
theorem bk_lims (vol : Int) (n k : Nat) (hk : k ≤ n) : Lim (bkTo vol n k) n ∧ LimM (bkTo vol n k) n := by
  rw [bk_to vol n k hk]
  exact ⟨⟨hk, by show (bkW vol k).length ≤ n; unfold bkW; simp; exact hk, fun _ => Nat.zero_le _⟩, fun _ => Nat.zero_le _⟩
theorem bkD_lims (vol : Int) (n : Nat) : Lim (bkD vol n) n ∧ LimM (bkD vol n) n := by
  obtain ⟨f, _, o⟩ := bk_fine vol n
  exact ⟨⟨by rw [o]; exact Nat.le_refl _, by rw [f.qt.W]; exact Nat.zero_le _, fun a => by rw [f.drops a]; exact Nat.zero_le _⟩, fun a => by rw [f.miss a]; exact Nat.zero_le _⟩
theorem bk_log {vol : Int} {g : Gn} {n : Nat} (hN : 4 + 2 * g.W ≤ n) : DevL vol g (bkD vol n) (fun _ _ => .free) := fun c s hc hs => (bk_fine vol n).2.1 _ (adN_lt hc hs hN)
theorem bk_start {vol : Int} {g : Gn} (hg : g.Ok) {n : Nat} (hN : 4 + 2 * g.W ≤ n) {x : Rg} (hx : RgOk x) (hv : x.vol = vol) (hxg : x.g = g.ge) {st : Nat} (hs : x.start = (st : Int)) (hn : x.next = (st : Int)) : LogS (· = Ct.free) vol g st x.chain (bkD vol n) x (fun _ _ => .free) ([] : List (List Pn)).flatten :=
  ⟨bk_log hN, fun i q h => by simp at h, fun _ _ _ _ _ => rfl, trivial, ⟨rfl, Or.inl rfl⟩, hx, hv, hxg, hs, by rw [hn]; simp, Nat.zero_le _⟩
structure Hurt (W : Nat) (C D : Nat → Nat → Ct) : Prop where
  or : ∀ c s, c < 2 → s < W → D c s = C c s ∨ D c s = .bad
section
variable {vol : Int} {g : Gn} {st : Nat} {ch0 : Int} {d : Dev} {x : Rg} {C D : Nat → Nat → Ct} {T : List (List Pn)} {m : Mi}
theorem left_holds (h : LogS (· = Ct.free) vol g st ch0 d x C T.flatten) (hg : g.Ok) (hD : Hurt g.W C D) (hor : ∀ s, s < g.W → D 0 s = C 0 s ∨ D 1 s = C 1 s) : ∀ (i : Nat) (q : Pn), T.flatten[i]? = some q → q.seq = ((st + i : Nat) : Int) ∧ Holds D ((st + i) % g.W) q := fun i q hq => by
  obtain ⟨h1, h2⟩ := h.pcs i q hq
  have hs : (st + i) % g.W < g.W := Nat.mod_lt _ (by have := hg.w1; omega)
  refine ⟨h1, ?_⟩
  have a0 := h2 0 (by omega)
  have a1 := h2 1 (by omega)
  have o0 := hD.or 0 _ (by omega) hs
  have o1 := hD.or 1 _ (by omega) hs
  rw [a0] at o0
  rw [a1] at o1
  rcases hor _ hs with e | e
  · rw [a0] at e
    exact Or.inl ⟨e, o1⟩
  · rw [a1] at e
    rcases o0 with f | f
    · exact Or.inl ⟨f, Or.inl e⟩
    · exact Or.inr ⟨f, e⟩
theorem told_left (h : LogS (· = Ct.free) vol g st ch0 d x C T.flatten) (hg : g.Ok) (hT : ∀ t ∈ T, GoodTx t) (hD : Hurt g.W C D) (hor : ∀ s, s < g.W → D 0 s = C 0 s ∨ D 1 s = C 1 s) (hm : LogM m D) (hmv : m.vol = vol) (hmg : m.g = g) :
    allI m st ch0 = (T.flatten, false) ∧ tailR (sumM m) T.flatten (st : Int) ch0 = ⟨T.map joinP, x.next, x.chain⟩ := by
  have esm : sumM m = sumR vol g.ge := by funext p; show sumR m.vol m.g.ge p = _; rw [hmv, hmg]
  constructor
  · unfold allI
    refine run_ends hm ?_ (by rw [hmg]; exact h.le) ?_
    · rw [esm, hmg]
      exact takes_of h.fits (left_holds h hg hD hor)
    · rw [hmg]
      by_cases q : T.flatten.length = g.W
      · exact Or.inl q
      · right
        have hs : (st + T.flatten.length) % g.W < g.W := Nat.mod_lt _ (by have := hg.w1; omega)
        have hfr : ∀ c, c < 2 → C c ((st + T.flatten.length) % g.W) = .free := fun c hc => h.rest _ hs (fun i hi => fun e => mod_ne (st := st) (i := T.flatten.length) (j := i) (by have := h.le; omega) (by have := h.le; omega) (by omega) e) c hc
        refine stops_of (fun c hc => ?_) ?_
        · have := hD.or c _ hc hs
          rw [hfr c hc] at this
          exact this
        · have := hor _ hs
          rw [hfr 0 (by omega), hfr 1 (by omega)] at this
          exact this
  · have := tail_txs (sm := sumM m) (T := T) (L := []) (start := (st : Int)) (chain := ch0) hT whole_nil
    rw [List.append_nil] at this
    rw [this, esm, h.aft.1, h.next]
    simp only [Tl.mk.injEq, and_true, true_and]
    omega
end
end Go.Proofs.YteleknojohnlbaaGreat
namespace Go.Proofs.YteleknojohnlbaaGreat
open Go.RowKit
set_option linter.unusedVariables false
set_option maxRecDepth 100000
set_option linter.unusedSimpArgs false
theorem One.cal2 {w0 w w1 : World} {B : Nat} {d d' : Dev} {r : Value} {F : FuncId} {args : Array Value} (h : One w0 B d w) (hc : Ch (fun _ => False) w w1) (g : ∀ p : Ph, p.B = B → DevIs w0.heap.size w1 p d → (∀ i, w.heap.size ≤ i → ¬ Foot p d i) → Calls Tryz.prog F args w1 (DPost w0.heap.size p d d' r w1)) : Calls Tryz.prog F args w1 (OneP w0 B d' r) := by
  obtain ⟨h1, p, h2, h3⟩ := h
  refine (g p h2 (h3.gr hc) (fun i hi hf => by have := (h3.foot hf).2; omega)).mono ?_
  intro e w' hp
  rw [← h2]
  exact hp.one (h3.gr hc) (h1.trans hc)
def fbV (vol a : Int) : Bk := ⟨1, vol, a, 0, 0, .slice none 0 0, 0, fun _ => 0⟩
theorem built_fb (vol a : Int) (w : World) : (Instr.build 80 #[(0, .int .i64 1), (1, .int .i64 vol), (2, .int .i64 a)]).run Tryz.prog w = .ok (.agg (bkC (fbV vol a))) w := run_build w _ _ _ (by kernel_rfl)
def blkOk (vol : Int) (g : Ge) : Bool := mayG g && (decide (g.wal ≤ 16) && wordS vol)
def secsG (g : Gn) : Nat := 4 + 2 * g.W + 2 * g.S * (g.K + g.M)
def BlankPost (vol : Int) (g : Ge) (w : World) (e : Ending) (w' : World) : Prop :=
  (blkOk vol g = false → e = .returned (.pointer none) ∧ Ch (fun _ => False) w w') ∧
  (∀ n : Gn, blkOk vol g = true → g = n.ge → ∃ B, e = .returned (.pointer (some ⟨B, 0, none⟩)) ∧ One w B (bkD vol (secsG n)) w')
set_option maxHeartbeats 6400000 in
theorem lawBlank_any (vol : Int) (g : Ge) (w : World) (hv : N64 vol) : Calls Tryz.prog 25 #[.int .i64 vol, .agg (geC g)] w (BlankPost vol g w) := by
  obtain ⟨w1, H, hR⟩ := geR w g
  obtain ⟨x0, x1, x2, x3⟩ := hR.x
  have HM := Lib.hid (rgmay_any g w1)
  have HR := Lib.hid hR
  clear hR
  cases hm : mayG g
  · have HB := Lib.hid (show blkOk vol g = false by unfold blkOk; rw [hm]; rfl)
    rw [hm] at HM
    clear hm
    go_enter Tryz.func25, Tryz.ntmps25
    go_wp2_with (first | ((with_reducible refine wpList_isOp (.box 23 (.tmp 1)) rfl ?_); refine wpList_boxing _ w1 rfl 23 (.tmp 1) rfl (geC g) H rfl (by exact HR.out.sz) (by exact HR.out.al) ?_) | fail)
    refine HM.out.mono ?_
    rintro e w2 ⟨rfl, hc⟩
    have HC := Lib.hid (HR.out.ch.trans hc)
    clear hc
    go_wp2
    go_ret
    exact ⟨fun _ => ⟨rfl, HC.out⟩, (fun n h => by rw [HB.out] at h; cases h)⟩
  rw [hm] at HM
  by_cases hw : 16 < g.wal
  · have HB := Lib.hid (show blkOk vol g = false by unfold blkOk; rw [hm, decide_eq_false (by omega)]; rfl)
    clear hm
    go_enter Tryz.func25, Tryz.ntmps25
    go_wp2_with (first | ((with_reducible refine wpList_isOp (.box 23 (.tmp 1)) rfl ?_); refine wpList_boxing _ w1 rfl 23 (.tmp 1) rfl (geC g) H rfl (by exact HR.out.sz) (by exact HR.out.al) ?_) | fail)
    refine HM.out.mono ?_
    rintro e w2 ⟨rfl, hc⟩
    have HC := Lib.hid (HR.out.ch.trans hc)
    obtain ⟨y0, y1, y2, y3⟩ := HR.out.x.gr hc
    clear hc x0 x1 x2 x3
    go_wp2
    go_ret
    exact ⟨fun _ => ⟨rfl, HC.out⟩, (fun n h => by rw [HB.out] at h; cases h)⟩
  by_cases hl : vol < 0
  · have HB := Lib.hid (show blkOk vol g = false by unfold blkOk wordS; rw [hm, decide_eq_true (show g.wal ≤ 16 by omega)]; show (true && (true && inB vol 0 4294967295)) = false; unfold inB; rw [decide_eq_false (by omega)]; rfl)
    clear hm
    go_enter Tryz.func25, Tryz.ntmps25
    go_wp2_with (first | ((with_reducible refine wpList_isOp (.box 23 (.tmp 1)) rfl ?_); refine wpList_boxing _ w1 rfl 23 (.tmp 1) rfl (geC g) H rfl (by exact HR.out.sz) (by exact HR.out.al) ?_) | fail)
    refine HM.out.mono ?_
    rintro e w2 ⟨rfl, hc⟩
    have HC := Lib.hid (HR.out.ch.trans hc)
    obtain ⟨y0, y1, y2, y3⟩ := HR.out.x.gr hc
    clear hc x0 x1 x2 x3
    go_wp2
    go_ret
    exact ⟨fun _ => ⟨rfl, HC.out⟩, (fun n h => by rw [HB.out] at h; cases h)⟩
  by_cases hl2 : 4294967295 < vol
  · have HB := Lib.hid (show blkOk vol g = false by unfold blkOk wordS; rw [hm, decide_eq_true (show g.wal ≤ 16 by omega)]; show (true && (true && inB vol 0 4294967295)) = false; unfold inB; rw [decide_eq_false (by omega)]; rfl)
    clear hm
    go_enter Tryz.func25, Tryz.ntmps25
    go_wp2_with (first | ((with_reducible refine wpList_isOp (.box 23 (.tmp 1)) rfl ?_); refine wpList_boxing _ w1 rfl 23 (.tmp 1) rfl (geC g) H rfl (by exact HR.out.sz) (by exact HR.out.al) ?_) | fail)
    refine HM.out.mono ?_
    rintro e w2 ⟨rfl, hc⟩
    have HC := Lib.hid (HR.out.ch.trans hc)
    obtain ⟨y0, y1, y2, y3⟩ := HR.out.x.gr hc
    clear hc x0 x1 x2 x3
    go_wp2
    go_ret
    exact ⟨fun _ => ⟨rfl, HC.out⟩, (fun n h => by rw [HB.out] at h; cases h)⟩
  · have HB := Lib.hid (show blkOk vol g = true by unfold blkOk wordS; rw [hm, decide_eq_true (show g.wal ≤ 16 by omega)]; exact inB_true.2 ⟨by omega, by omega⟩)
    obtain ⟨n, hn, rfl⟩ := may_nat hm
    have HVW := Lib.hid (show 0 ≤ vol ∧ vol ≤ 4294967295 from ⟨by omega, by omega⟩)
    have h1 := hn.w1
    have h2 := hn.w2
    have h3 := hn.s2
    have h4 := hn.k2
    have h5 := hn.m2
    have hmul : n.S * (n.K + n.M) ≤ 32 * 24 := Nat.mul_le_mul h3 (by omega)
    have hw' : (n.W : Int) ≤ 16 := by
      have : ¬ 16 < (n.W : Int) := hw
      omega
    obtain ⟨Q, hQ⟩ : ∃ Q, Q = n.K + n.M := ⟨_, rfl⟩
    obtain ⟨P, hP⟩ : ∃ P, P = 2 * n.S := ⟨_, rfl⟩
    have hPQ : P * Q ≤ 1536 := by
      rw [hP, hQ, Nat.mul_assoc]
      omega
    have ePQ : wrap64 ((P : Int) * (Q : Int)) = ((P * Q : Nat) : Int) := by
      rw [← Int.natCast_mul]
      exact IntWalk.wrap64_in _ ⟨by omega, by omega⟩
    obtain ⟨Z, hZ⟩ : ∃ Z, Z = P * Q := ⟨_, rfl⟩
    rw [← hZ] at ePQ hPQ
    have e1 : wrap64 (2 * (n.S : Int)) = (P : Int) := by rw [IntWalk.wrap64_in _ ⟨by omega, by omega⟩, hP]; omega
    have e2 : wrap64 ((n.K : Int) + (n.M : Int)) = (Q : Int) := by rw [IntWalk.wrap64_in _ ⟨by omega, by omega⟩, hQ]; omega
    obtain ⟨N, hN⟩ : ∃ N, N = secsG n := ⟨_, rfl⟩
    have hNe : N = 4 + 2 * n.W + Z := by rw [hN, hZ, hP, hQ]; rfl
    have hw2 : ¬ 16 < (n.W : Int) := hw
    clear hm hw hmul
    have x0 : w1.cell? ⟨H, 0, none⟩ = some (.int .i64 (n.W : Int)) := x0
    have x1 : w1.cell? ⟨H, 1, none⟩ = some (.int .i64 (n.S : Int)) := x1
    have x2 : w1.cell? ⟨H, 2, none⟩ = some (.int .i64 (n.K : Int)) := x2
    have x3 : w1.cell? ⟨H, 3, none⟩ = some (.int .i64 (n.M : Int)) := x3
    have HNE := Lib.hid hNe
    have HNN := Lib.hid hN
    clear hQ hP hZ hN hNe h3 h4 h5
    go_enter Tryz.func25, Tryz.ntmps25
    go_wp2_with (first | ((with_reducible refine wpList_isOp (.box 23 (.tmp 1)) rfl ?_); refine wpList_boxing _ w1 rfl 23 (.tmp 1) rfl (geC n.ge) H rfl (by exact HR.out.sz) (by exact HR.out.al) ?_) | fail)
    refine HM.out.mono ?_
    rintro e w2 ⟨rfl, hc⟩
    have HC := Lib.hid (HR.out.ch.trans hc)
    obtain ⟨y0, y1, y2, y3⟩ := HR.out.x.gr hc
    have x0 : w2.cell? ⟨H, 0, none⟩ = some (.int .i64 (n.W : Int)) := y0
    have x1 : w2.cell? ⟨H, 1, none⟩ = some (.int .i64 (n.S : Int)) := y1
    have x2 : w2.cell? ⟨H, 2, none⟩ = some (.int .i64 (n.K : Int)) := y2
    have x3 : w2.cell? ⟨H, 3, none⟩ = some (.int .i64 (n.M : Int)) := y3
    clear hc y0 y1 y2 y3
    go_wp2_with fail
    rw [show (4 + 2 * (n.W : Int) + (Z : Int)) = (N : Int) by have := HNE.out; omega]
    have hN1 : 1 ≤ N := by have := HNE.out; omega
    have hN2 : N ≤ 4096 := by have := HNE.out; omega
    refine (One.new N w2 hN1 hN2 w HC.out).mono ?_
    rintro e w3 ⟨B, rfl, hO⟩
    have HO := Lib.hid hO
    have HN2 := Lib.hid hN2
    clear hO x0 x1 x2 x3 e1 e2 ePQ hPQ hw2 hw' h1 h2 hv HM
    go_wp2
    go_loopw [9, 10, 11, 48, 49, 50, 51, 52, 53, 54, 55, 56, 57, 58, 59, 60, 61, 62, 63] (fun i _ _ _ _ _ _ _ _ _ _ _ _ _ _ _ _ _ _ wr => ∃ k : Nat, k ≤ N ∧ i = .int .i64 k ∧ Hid (One w B (bkTo vol N k) wr)) (fun i _ _ _ _ _ _ _ _ _ _ _ _ _ _ _ _ _ _ _ => N - (intOf i).toNat)
    case atStart => exact ⟨0, Nat.zero_le _, rfl, HO⟩
    case round =>
      obtain ⟨k, hk, rfl, HK⟩ := hrel
      clear HO
      by_cases hlt : k < N
      · have i1 : (0 : Int) ≤ (k : Int) := Int.natCast_nonneg _
        have i2 : (k : Int) < (N : Int) := by omega
        have HLT := Lib.hid hlt
        have hmy : mayB (fbV vol (k : Int)) = true := fbk_may HVW.out ⟨by omega, by have := HN2.out; omega⟩
        have HSN : Hid (sealN (fbV vol (k : Int)) = 256) := Lib.hid (by unfold sealN; rw [hmy]; rfl)
        have HSE := Lib.hid (rsealB_any (fbV vol (k : Int)) none 0 wr rfl ⟨⟨by show _ ≤ (1 : Int); omega, by show (1 : Int) ≤ _; omega⟩, ⟨by show _ ≤ vol; have := HVW.out; omega, by show vol ≤ _; have := HVW.out; omega⟩, ⟨by show _ ≤ (k : Int); omega, by show (k : Int) ≤ _; have := HN2.out; omega⟩, ⟨by show _ ≤ (0 : Int); omega, by show (0 : Int) ≤ _; omega⟩, ⟨by show _ ≤ (0 : Int); omega, by show (0 : Int) ≤ _; omega⟩, ⟨none, 0, rfl, ⟨by show (0 : Nat) ≤ _; omega, Nat.le_refl _⟩, fun q => absurd q (Nat.lt_irrefl 0)⟩⟩)
        have HBT := Lib.hid (built_fb vol (k : Int) wr)
        clear hlt hmy
        go_wp2_with (first
          | ((with_reducible refine wpList_isOp (.build 80 #[(0, .const (.int .i64 1)), (1, .tmp 54), (2, .tmp 55)]) rfl ?_); refine wpList_building _ rfl 80 #[(0, .const (.int .i64 1)), (1, .tmp 54), (2, .tmp 55)] rfl _ (by exact HBT.out) ?_)
          | fail)
        refine HSE.out.mono ?_
        rintro e w4 ⟨A4, C4, rfl, ho4, hc4⟩
        rw [HSN.out] at ho4
        rw [HSN.out]
        obtain ⟨sb, rfl, hob⟩ := own_new (w := wr) ho4 (by omega) (by omega) (sectZ_b (fun c hc => absurd hc (Nat.not_lt_zero c)) 256) (Nat.le_refl _)
        obtain ⟨sE, hsE⟩ : ∃ sE, sE = sealE (fbV vol (k : Int)) := ⟨_, rfl⟩
        rw [← hsE]
        have hlm := bk_lims vol N k hk
        have HWR := Lib.hid (HK.out.cal2 hc4 (d' := writeD (bkTo vol N k) (k : Int) 256 (sectZ (fbV vol (k : Int)))) (r := .int .i64 (writeE (bkTo vol N k) (k : Int) 256)) (F := 60) (args := #[.pointer (some ⟨B, 0, none⟩), .int .i64 (k : Int), .slice (some ⟨sb, 0, none⟩) 256 C4]) fun p hp h3 hf => by
          subst hp
          exact write_any _ p (bkTo vol N k) (k : Int) sb 0 256 C4 _ w4 h3 hob.row (hf sb hob.lo) (by have := hlm.1.ops; have := HN2.out; omega) (by have := hlm.1.W; have := HN2.out; omega) (fun a => by have := hlm.1.drops a; have := HN2.out; omega))
        clear ho4 hc4 hob hlm hsE
        go_wp2_with fail
        refine HWR.out.mono ?_
        rintro e w5 ⟨rfl, hO5⟩
        have HO5 : Hid (One w B (bkTo vol N (k + 1)) w5) := Lib.hid hO5
        clear hO5 HWR
        have hlt2 := HLT.out
        go_wp2
        go_roundw
        case rel => exact ⟨k + 1, HLT.out, by go_num, HO5⟩
        case measure => have := HLT.out; simp [intOf]; omega
      · obtain rfl : k = N := by omega
        have hlm := bk_lims vol k k (Nat.le_refl _)
        have HFL := Lib.hid (HK.out.flush hlm.1 (by have := HN2.out; omega))
        clear hlm hlt hk
        go_wp2_with fail
        refine HFL.out.mono ?_
        rintro e w5 ⟨rfl, hO5⟩
        have HFIN : Hid (BlankPost vol n.ge w (.returned (.pointer (some ⟨B, 0, none⟩))) w5) := Lib.hid ⟨(fun h => by rw [HB.out] at h; cases h), fun n' _ he => by
          have e : secsG n' = k := by
            rw [HNN.out]
            obtain ⟨a, b, c, d⟩ := n
            obtain ⟨a', b', c', d'⟩ := n'
            unfold Gn.ge at he
            simp only [Ge.mk.injEq, Int.natCast_inj] at he
            obtain ⟨rfl, rfl, rfl, rfl⟩ := he
            rfl
          exact ⟨B, rfl, by rw [e]; exact hO5⟩⟩
        clear hO5
        go_wp2
        go_ret
        exact HFIN.out
end Go.Proofs.YteleknojohnlbaaGreat
