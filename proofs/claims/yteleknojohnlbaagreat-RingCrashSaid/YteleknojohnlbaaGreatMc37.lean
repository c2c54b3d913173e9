/-
  A device that holds a log: what is written on it, and read of it, where nothing goes wrong; in plain words. A log that grows, transaction by transaction, where nothing goes wrong; what is told of it: in plain words. A device that is blank, in plain words; what is told of a log whose sectors are damaged. Groups and sectors of any geometry, by any ints, plainly. The document's May, Groups, Bears, Ints (quartermasterref08), walked.
-/
import Derived.Test.YteleknojohnlbaaGreatMc36
import Derived.Test.YteleknojohnlbaaGreatMc10
import Derived.Test.YteleknojohnlbaaGreatMc19
import Derived.Test.YteleknojohnlbaaGreatMc15
namespace Go.Proofs.YteleknojohnlbaaGreat
open Go.RowKit
set_option linter.unusedVariables false
set_option maxRecDepth 100000
def adN (g : Gn) (c s : Nat) : Nat := 4 + c * g.W + s
theorem adN_eq (g : Gn) (c s : Nat) : (adN g c s : Int) = addrR g.ge (c : Int) (s : Int) := by
  show ((4 + c * g.W + s : Nat) : Int) = 4 + (c : Int) * (g.W : Int) + (s : Int)
  rw [Int.natCast_add, Int.natCast_add, Int.natCast_mul]
  rfl
theorem adN_inj {g : Gn} {c c' s s' : Nat} (hc : c < 2) (hc' : c' < 2) (hs : s < g.W) (hs' : s' < g.W) (h : adN g c s = adN g c' s') : c = c' ∧ s = s' := by
  unfold adN at h
  obtain rfl | rfl : c = 0 ∨ c = 1 := by omega
  · obtain rfl | rfl : c' = 0 ∨ c' = 1 := by omega
    · omega
    · omega
  · obtain rfl | rfl : c' = 0 ∨ c' = 1 := by omega
    · omega
    · omega
theorem adN_lt {g : Gn} {c s N : Nat} (hc : c < 2) (hs : s < g.W) (hN : 4 + 2 * g.W ≤ N) : adN g c s < N := by
  unfold adN
  obtain rfl | rfl : c = 0 ∨ c = 1 := by omega
  · omega
  · omega
def OnDev (vol : Int) (g : Gn) (d : Dev) (c s : Nat) : Ct → Prop
  | .free => HasZ d (adN g c s) (sectZ (fbk vol (adN g c s : Int)))
  | .pc q => HasZ d (adN g c s) (sectR vol g.ge (c : Int) q) ∧ rokB vol g.ge 0 q = true ∧ q.seq % g.ge.wal = (s : Int) ∧ ∀ y ∈ q.B, y < 256
  | .bad => d.lost (adN g c s) = true ∨ opensB 256 (d.has (adN g c s)) = false
def DevL (vol : Int) (g : Gn) (d : Dev) (C : Nat → Nat → Ct) : Prop := ∀ c s : Nat, c < 2 → s < g.W → OnDev vol g d c s (C c s)
theorem OnDev.same {vol : Int} {g : Gn} {d d' : Dev} {c s : Nat} {ct : Ct} (h : OnDev vol g d c s ct) (e1 : d'.has (adN g c s) = d.has (adN g c s)) (e2 : d'.lost (adN g c s) = d.lost (adN g c s)) : OnDev vol g d' c s ct := by
  have hz : ∀ z, HasZ d (adN g c s) z → HasZ d' (adN g c s) z := fun z h => ⟨by rw [e2]; exact h.1, fun i hi => by rw [e1]; exact h.2 i hi⟩
  cases ct with
  | free => exact hz _ h
  | pc q => exact ⟨hz _ h.1, h.2⟩
  | bad => exact h.imp (fun h => by rw [e2]; exact h) (fun h => by rw [e1]; exact h)
def setC (C : Nat → Nat → Ct) (sl : Nat) (q : Pn) (c s : Nat) : Ct := if s = sl then .pc q else C c s
def slN (g : Gn) (q : Pn) : Nat := (q.seq % g.ge.wal).toNat
theorem slN_eq {g : Gn} (hg : g.Ok) {q : Pn} : (slN g q : Int) = q.seq % g.ge.wal ∧ slN g q < g.W := by
  have hw : g.ge.wal = (g.W : Int) := rfl
  have h1 := hg.w1
  have h2 : 0 ≤ q.seq % g.ge.wal := Int.emod_nonneg _ (by omega)
  have h3 : q.seq % g.ge.wal < g.ge.wal := Int.emod_lt_of_pos _ (by omega)
  unfold slN
  exact ⟨Int.toNat_of_nonneg h2, by omega⟩
theorem put_at {g : Gn} (hg : g.Ok) {x : Rg} (hx : x.g = g.ge) {q : Pn} (c : Nat) : putR x q c = ⟨(adN g c (slN g q) : Int), 256, sectR x.vol g.ge (c : Int) q⟩ := by
  unfold putR
  rw [hx, adN_eq, (slN_eq hg).1]
section
variable {vol : Int} {g : Gn} {N : Nat} {d : Dev} {C : Nat → Nat → Ct}
theorem write_fine (hg : g.Ok) (hN : 4 + 2 * g.W ≤ N) (h : Fine N d) (hL : DevL vol g d C) {x : Rg} {q : Pn} (hv : x.vol = vol) (hx : x.g = g.ge) (hr : rokB vol g.ge 0 q = true) (hb : ∀ y ∈ q.B, y < 256) :
    wrE x q d = 0 ∧ Fine N (wrD x q d) ∧ DevL vol g (wrD x q d) (setC C (slN g q) q) := by
  obtain ⟨s1, s2⟩ := slN_eq hg (q := q)
  have a0 := adN_lt (c := 0) (by omega) s2 hN
  have a1 := adN_lt (c := 1) (by omega) s2 hN
  obtain ⟨e1, f1, z1, o1⟩ := kep_fine (j := 3) a0 (sectR vol g.ge ((0 : Nat) : Int) q) h
  obtain ⟨e2, f2, z2, o2⟩ := kep_fine (j := 3) a1 (sectR vol g.ge ((1 : Nat) : Int) q) f1
  have p0 := put_at hg hx (q := q) 0
  have p1 := put_at hg hx (q := q) 1
  rw [hv] at p0 p1
  have hall : allTo (putR x q) d 2 = ⟨kepD 4 (kepD 4 d (putR x q 0)) (putR x q 1), kepE 4 (kepD 4 d (putR x q 0)) (putR x q 1)⟩ := by
    show (if (allTo (putR x q) d 1).e = 0 then _ else _) = _
    have h1 : allTo (putR x q) d 1 = ⟨kepD 4 d (putR x q 0), kepE 4 d (putR x q 0)⟩ := if_pos rfl
    rw [h1, p0, if_pos e1]
  unfold wrE wrD
  rw [hall, p0, p1]
  refine ⟨e2, f2, fun c s hc hs => ?_⟩
  unfold setC
  by_cases q1 : s = slN g q
  · rw [if_pos q1]
    subst q1
    refine ⟨?_, hr, s1.symm, hb⟩
    obtain rfl | rfl : c = 0 ∨ c = 1 := by omega
    · have ne : adN g 0 (slN g q) ≠ adN g 1 (slN g q) := fun e => by have := (adN_inj (by omega) (by omega) s2 s2 e).1; omega
      obtain ⟨g1, g2⟩ := o2 _ ne
      exact ⟨g2.trans z1.1, fun i hi => (congrFun g1 i).trans (z1.2 i hi)⟩
    · exact z2
  · rw [if_neg q1]
    have n0 : adN g c s ≠ adN g 0 (slN g q) := fun e => q1 (adN_inj hc (by omega) hs s2 e).2
    have n1 : adN g c s ≠ adN g 1 (slN g q) := fun e => q1 (adN_inj hc (by omega) hs s2 e).2
    obtain ⟨g1, g2⟩ := o1 _ n0
    obtain ⟨g3, g4⟩ := o2 _ n1
    exact (hL c s hc hs).same (g3.trans g1) (g4.trans g2)
theorem ld_reads (h : Qt N d) (hg : g.Ok) (hN : 4 + 2 * g.W ≤ N) {c : Nat} (hc : c < 2) : ∀ k, k ≤ g.W → ldD g.ge (c : Int) d k = { d with ops := d.ops + k }
  | 0, _ => rfl
  | k + 1, hk => by
    have ih := ld_reads h hg hN hc k (by omega)
    show readD (ldD g.ge (c : Int) d k) (addrR g.ge (c : Int) (k : Int)) = _
    rw [ih, ← adN_eq, ((h.ops (d.ops + k)).read (adN_lt hc (by omega) hN)).2.1]
    rfl
theorem ld_slot (h : Qt N d) (hg : g.Ok) (hN : 4 + 2 * g.W ≤ N) {c s : Nat} (hc : c < 2) (hs : s < g.W) : ldN g.ge (c : Int) d s = (if d.lost (adN g c s) then 0 else 256) ∧ ldZ g.ge (c : Int) d s = d.has (adN g c s) := by
  obtain ⟨r1, _, r3⟩ := (h.ops (d.ops + s)).read (adN_lt hc hs hN)
  unfold ldN ldZ
  rw [ld_reads h hg hN hc s (by omega), ← adN_eq]
  refine ⟨?_, r3⟩
  unfold readL
  rw [r1]
  show (if (if d.lost (adN g c s) then (20 : Int) else 0) = 0 then 256 else 0) = _
  cases d.lost (adN g c s) <;> rfl
theorem ld_shows (h : Qt N d) (hg : g.Ok) (hN : 4 + 2 * g.W ≤ N) {c s : Nat} (hc : c < 2) (hs : s < g.W) {ct : Ct} (ho : OnDev vol g d c s ct) : ShowsC vol g.ge (c : Int) (s : Int) (ldN g.ge (c : Int) d s) (ldZ g.ge (c : Int) d s) ct := by
  obtain ⟨e1, e2⟩ := ld_slot h hg hN hc hs
  rw [e1, e2]
  cases ct with
  | free =>
    have ho' : HasZ d (adN g c s) (sectZ (fbk vol (adN g c s : Int))) := ho
    rw [ho'.1]
    refine ⟨rfl, fun i hi => ?_⟩
    rw [← adN_eq]
    exact ho'.2 i hi
  | pc q =>
    obtain ⟨hz, hr, hsl, hb⟩ := ho
    rw [hz.1]
    exact ⟨rok_mirs hr hc, rfl, hz.2, hsl, hb⟩
  | bad =>
    show opensB _ _ = false
    have ho' : d.lost (adN g c s) = true ∨ opensB 256 (d.has (adN g c s)) = false := ho
    cases hl : d.lost (adN g c s)
    · exact ho'.resolve_left (by rw [hl]; decide)
    · rw [if_pos rfl]; rfl
def miOf (vol : Int) (g : Gn) (d : Dev) (A0 A1 : Option Addr) (C0 C1 : Nat) : Mi :=
  ⟨vol, g, fun c => if c = 0 then A0 else A1, fun c => if c = 0 then C0 else C1, fun c => if c = 0 then ldN g.ge 0 d else ldN g.ge 1 (ldD g.ge 0 d g.W), fun c => if c = 0 then ldZ g.ge 0 d else ldZ g.ge 1 (ldD g.ge 0 d g.W)⟩
theorem logM_of (h : Qt N d) (hg : g.Ok) (hN : 4 + 2 * g.W ≤ N) (hv : 0 ≤ vol ∧ vol ≤ 4294967295) (hL : DevL vol g d C) (A0 A1 : Option Addr) (C0 C1 : Nat) : LogM (miOf vol g d A0 A1 C0 C1) C := by
  refine ⟨hg, hv, fun c s hc hs => ?_⟩
  obtain rfl | rfl : c = 0 ∨ c = 1 := by omega
  · exact ld_shows h hg hN (c := 0) (by omega) hs (hL 0 s (by omega) hs)
  · have e := ld_reads h hg hN (c := 0) (by omega) g.W (Nat.le_refl _)
    have e' : ldD g.ge 0 d g.W = { d with ops := d.ops + g.W } := e
    show ShowsC vol g.ge ((1 : Nat) : Int) (s : Int) (ldN g.ge 1 (ldD g.ge 0 d g.W) s) (ldZ g.ge 1 (ldD g.ge 0 d g.W) s) (C 1 s)
    rw [e']
    exact ld_shows (h.ops _) hg hN (c := 1) (by omega) hs ((hL 1 s (by omega) hs).same rfl rfl)
end
end Go.Proofs.YteleknojohnlbaaGreat
namespace Go.Proofs.YteleknojohnlbaaGreat
open Go.RowKit
set_option linter.unusedVariables false
set_option maxRecDepth 100000
structure LogS (Old : Ct → Prop) (vol : Int) (g : Gn) (st : Nat) (ch0 : Int) (d : Dev) (x : Rg) (C : Nat → Nat → Ct) (P : List Pn) : Prop where
  dev : DevL vol g d C
  pcs : ∀ (i : Nat) (q : Pn), P[i]? = some q → q.seq = ((st + i : Nat) : Int) ∧ ∀ c, c < 2 → C c ((st + i) % g.W) = .pc q
  rest : ∀ s, s < g.W → (∀ i, i < P.length → s ≠ (st + i) % g.W) → ∀ c, c < 2 → Old (C c s)
  fits : FitsL (sumR vol g.ge) pn0 ch0 P
  aft : RgAft (endA pn0 P) (endS (sumR vol g.ge) ch0 P) x
  ok : RgOk x
  vx : x.vol = vol
  gx : x.g = g.ge
  start : x.start = (st : Int)
  next : x.next = ((st + P.length : Nat) : Int)
  le : P.length ≤ g.W
theorem mod_ne {st i j W : Nat} (hi : i < W) (hj : j < W) (h : i ≠ j) : (st + i) % W ≠ (st + j) % W := fun e => by
  have h1 := Nat.div_add_mod (st + i) W
  have h2 := Nat.div_add_mod (st + j) W
  rw [e] at h1
  have h3 : (st + i : Nat) + W * ((st + j) / W) = (st + j) + W * ((st + i) / W) := by omega
  rcases Nat.lt_trichotomy ((st + i) / W) ((st + j) / W) with q | q | q
  · have := Nat.mul_le_mul_left W (show (st + i) / W + 1 ≤ (st + j) / W from q)
    rw [Nat.mul_add, Nat.mul_one] at this
    omega
  · rw [q] at h3; omega
  · have := Nat.mul_le_mul_left W (show (st + j) / W + 1 ≤ (st + i) / W from q)
    rw [Nat.mul_add, Nat.mul_one] at this
    omega
section
variable {Old : Ct → Prop} {vol : Int} {g : Gn} {st N : Nat} {ch0 : Int} {d : Dev} {x : Rg} {C : Nat → Nat → Ct} {P : List Pn}
theorem LogS.piece (h : LogS Old vol g st ch0 d x C P) (hg : g.Ok) (hN : 4 + 2 * g.W ≤ N) (hf : Fine N d) (hP : P.length < g.W) (hn : x.next + 1 ≤ 4294967295) {o : Int} (ho : 1 ≤ o ∧ o ≤ 64) {i : Nat} (hi : (i : Int) < o) {B : List Nat} (hB : ∀ y ∈ B, y < 256) :
    wrE x (apQ o B x i) d = 0 ∧ Fine N (wrD x (apQ o B x i) d) ∧ LogS Old vol g st ch0 (wrD x (apQ o B x i) d) (nxR x (apQ o B x i) 0) (setC C ((st + P.length) % g.W) (apQ o B x i)) (P ++ [apQ o B x i]) := by
  have hrok := ap_rok (B := B) h.ok ho hi
  rw [h.vx, h.gx] at hrok
  have hqb : ∀ y ∈ (apQ o B x i).B, y < 256 := pcB_b hB i
  obtain ⟨e1, e2, e3⟩ := write_fine hg hN hf h.dev h.vx h.gx hrok hqb
  obtain ⟨q, hq⟩ : ∃ q, q = apQ o B x i := ⟨_, rfl⟩
  have hqs : q.seq = ((st + P.length : Nat) : Int) := by rw [hq]; exact h.next
  have hsl : slN g q = (st + P.length) % g.W := by
    unfold slN
    rw [hqs, show g.ge.wal = (g.W : Int) from rfl, ← Int.natCast_emod]
    exact Int.toNat_natCast _
  have haf := aft_fits h.aft o B i
  have hax := aft_next o B x i
  rw [← hq] at e1 e2 e3 hrok hqb haf hax ⊢
  rw [hsl] at e3
  refine ⟨e1, e2, e3, ?_, ?_, ?_, ?_, ?_, ?_, ?_, ?_, ?_, ?_⟩
  · intro j p hj
    by_cases c : j < P.length
    · rw [List.getElem?_append_left c] at hj
      obtain ⟨h1, h2⟩ := h.pcs j p hj
      refine ⟨h1, fun m hm => ?_⟩
      unfold setC
      rw [if_neg (mod_ne (by omega) hP (by omega))]
      exact h2 m hm
    · have hj2 : j = P.length := by
        have := (List.getElem?_eq_some_iff.1 hj).1
        rw [List.length_append] at this
        simp only [List.length_cons, List.length_nil] at this
        omega
      subst hj2
      rw [List.getElem?_append_right (Nat.le_refl _), Nat.sub_self] at hj
      injection hj with hj
      subst hj
      exact ⟨hqs, fun m hm => if_pos rfl⟩
  · intro s hs hne c hc
    have hs1 : s ≠ (st + P.length) % g.W := hne P.length (by rw [List.length_append]; simp)
    unfold setC
    rw [if_neg hs1]
    exact h.rest s hs (fun j hj => hne j (by rw [List.length_append]; omega)) c hc
  · exact fits_app h.fits ⟨haf, trivial⟩
  · rw [endA_app, endS_app]
    rw [h.vx, h.gx] at hax
    exact hax
  · rw [nx0]
    refine ⟨h.ok.may, h.ok.vol, h.ok.ep, ?_, sumR_word hqb, hn, ?_⟩
    · show 0 ≤ x.fr ∧ x.fr ≤ x.next + 1; have := h.ok.fr; omega
    · show 0 ≤ x.start ∧ x.start ≤ x.next + 1; have := h.ok.st; omega
  · rw [nx0]; exact h.vx
  · rw [nx0]; exact h.gx
  · rw [nx0]; exact h.start
  · rw [nx0]
    show x.next + 1 = _
    rw [h.next, List.length_append]
    simp only [List.length_cons, List.length_nil]
    omega
  · rw [List.length_append]; simp only [List.length_cons, List.length_nil]; omega
theorem LogS.pieces (h : LogS Old vol g st ch0 d x C P) (hg : g.Ok) (hN : 4 + 2 * g.W ≤ N) (hf : Fine N d) {o : Nat} (ho : 1 ≤ o ∧ o ≤ 64) (hP : P.length + o ≤ g.W) (hn : x.next + (o : Int) ≤ 4294967295) {B : List Nat} (hB : ∀ y ∈ B, y < 256) :
    ∀ k, k ≤ o → ∃ C' d', apL (o : Int) B ⟨d, x, 0⟩ (List.range k) = ⟨d', ringTo (o : Int) B x k, 0⟩ ∧ Fine N d' ∧ LogS Old vol g st ch0 d' (ringTo (o : Int) B x k) C' (P ++ txP (o : Int) B x k)
  | 0, _ => ⟨C, d, rfl, hf, by simp only [txP, List.range_zero, List.map_nil, List.append_nil]; exact h⟩
  | k + 1, hk => by
    obtain ⟨C', d', e1, f1, l1⟩ := LogS.pieces h hg hN hf ho hP hn hB k (by omega)
    have hlen : (P ++ txP (o : Int) B x k).length = P.length + k := by rw [List.length_append, txP_len]
    obtain ⟨a1, a2, a3⟩ := l1.piece hg hN f1 (by rw [hlen]; omega) (by rw [(ring_to (o : Int) B x k).next]; omega) (o := (o : Int)) ⟨by omega, by omega⟩ (i := k) (by omega) hB
    refine ⟨setC C' ((st + (P ++ txP (o : Int) B x k).length) % g.W) (apQ (o : Int) B (ringTo (o : Int) B x k) k), wrD (ringTo (o : Int) B x k) (apQ (o : Int) B (ringTo (o : Int) B x k) k) d', ?_, a2, ?_⟩
    · rw [List.range_succ, apL_snoc, e1]
      unfold apStep
      rw [if_pos rfl]
      simp only [a1]
      rfl
    · rw [txP_snoc, ← List.append_assoc]
      exact a3
theorem LogS.app (h : LogS Old vol g st ch0 d x C P) (hg : g.Ok) (hN : 4 + 2 * g.W ≤ N) (hf : Fine N d) {B : List Nat} (hB : ∀ y ∈ B, y < 256) (he : apE0 x B.length = 0) :
    ∃ C' d', appS x B d = ⟨d', ringTo (cntR B.length) B x (cntN B.length), 0⟩ ∧ Fine N d' ∧ LogS Old vol g st ch0 d' (ringTo (cntR B.length) B x (cntN B.length)) C' (P ++ txP (cntR B.length) B x (cntN B.length)) := by
  have hc := cntN_eq B.length
  have hp := cntN_pos B.length
  obtain ⟨h1, h2, h3⟩ : ¬ 64 < cntR B.length ∧ ¬ x.g.wal < x.next + cntR B.length - x.start ∧ ¬ 4294967295 < x.next + cntR B.length := by
    unfold apE0 at he
    by_cases q : 64 < cntR B.length
    · rw [if_pos q] at he; cases he
    · rw [if_neg q] at he
      by_cases r : x.g.wal < x.next + cntR B.length - x.start ∨ 4294967295 < x.next + cntR B.length
      · rw [if_pos r] at he; cases he
      · exact ⟨q, fun e => r (Or.inl e), fun e => r (Or.inr e)⟩
  have hw : x.g.wal = (g.W : Int) := by rw [h.gx]; rfl
  have hnx := h.next
  have hst := h.start
  unfold appS
  rw [if_pos he, ← hc]
  exact h.pieces hg hN hf (o := cntN B.length) ⟨hp, by omega⟩ (by omega) (by omega) hB (cntN B.length) (Nat.le_refl _)
end
structure AdS where
  d : Dev
  x : Rg
  out : List (List Nat)
  ok : Bool
def adStep (s : AdS) (B : List Nat) : AdS :=
  if s.ok then (if (appS s.x B s.d).e = 4 ∨ (appS s.x B s.d).e = 2 then ⟨(appS s.x B s.d).d, (appS s.x B s.d).x, s.out, true⟩ else if (appS s.x B s.d).e = 0 then ⟨(appS s.x B s.d).d, (appS s.x B s.d).x, s.out ++ [B], true⟩ else ⟨(appS s.x B s.d).d, (appS s.x B s.d).x, s.out, false⟩) else s
def adTo (s : AdS) (L : List (List Nat)) : AdS := L.foldl adStep s
theorem adTo_snoc (s : AdS) (L : List (List Nat)) (B : List Nat) : adTo s (L ++ [B]) = adStep (adTo s L) B := by unfold adTo; rw [List.foldl_append]; rfl
theorem apE0_is (x : Rg) (n : Nat) : apE0 x n = 0 ∨ apE0 x n = 2 ∨ apE0 x n = 4 := by
  unfold apE0
  split
  · exact Or.inr (Or.inl rfl)
  · split
    · exact Or.inr (Or.inr rfl)
    · exact Or.inl rfl
section
variable {Old : Ct → Prop} {vol : Int} {g : Gn} {st N : Nat} {ch0 : Int} {d : Dev} {x : Rg} {C : Nat → Nat → Ct} {T : List (List Pn)}
theorem LogS.all (h : LogS Old vol g st ch0 d x C T.flatten) (hT : ∀ t ∈ T, GoodTx t) (hg : g.Ok) (hN : 4 + 2 * g.W ≤ N) (hf : Fine N d) : ∀ L : List (List Nat), (∀ B ∈ L, ∀ y ∈ B, y < 256) →
    ∃ C' T', (adTo ⟨d, x, [], true⟩ L).ok = true ∧ Fine N (adTo ⟨d, x, [], true⟩ L).d ∧ LogS Old vol g st ch0 (adTo ⟨d, x, [], true⟩ L).d (adTo ⟨d, x, [], true⟩ L).x C' (T ++ T').flatten ∧ (∀ t ∈ T', GoodTx t) ∧ T'.map joinP = (adTo ⟨d, x, [], true⟩ L).out := by
  refine snocI ?_ ?_
  · intro _
    exact ⟨C, [], rfl, hf, by rw [List.append_nil]; exact h, fun t ht => by simp at ht, rfl⟩
  · intro L B ih hL
    obtain ⟨C', T', a1, a2, a3, a4, a5⟩ := ih fun B' hB' => hL B' (List.mem_append_left _ hB')
    have hB := hL B (List.mem_append_right _ (List.mem_singleton.2 rfl))
    rw [adTo_snoc]
    unfold adStep
    rw [if_pos a1]
    obtain ⟨s, hs⟩ : ∃ s, s = adTo ⟨d, x, [], true⟩ L := ⟨_, rfl⟩
    rw [← hs] at a1 a2 a3 a5 ⊢
    rcases apE0_is s.x B.length with he | he
    · obtain ⟨C2, d2, b1, b2, b3⟩ := a3.app hg hN a2 hB he
      rw [b1, if_neg (show ¬ ((0 : Int) = 4 ∨ (0 : Int) = 2) by decide), if_pos (show (0 : Int) = 0 from rfl)]
      refine ⟨C2, T' ++ [txP (cntR B.length) B s.x (cntN B.length)], rfl, b2, ?_, ?_, ?_⟩
      · rw [← List.append_assoc, List.flatten_append, List.flatten_cons, List.flatten_nil, List.append_nil]
        exact b3
      · intro t ht
        rcases List.mem_append.1 ht with q | q
        · exact a4 t q
        · rw [List.mem_singleton.1 q, ← cntN_eq]
          exact txP_good (cntN_pos _)
      · rw [List.map_append, a5, List.map_cons, List.map_nil, txP_all]
    · have e : appS s.x B s.d = ⟨s.d, s.x, apE0 s.x B.length⟩ := if_neg (by rcases he with e | e <;> rw [e] <;> decide)
      rw [e, if_pos (by rcases he with q | q; exact Or.inr q; exact Or.inl q)]
      exact ⟨C', T', rfl, a2, a3, a4, a5⟩
end
end Go.Proofs.YteleknojohnlbaaGreat
namespace Go.Proofs.YteleknojohnlbaaGreat
open Go.RowKit
set_option linter.unusedVariables false
set_option maxRecDepth 100000
def bkTo (vol : Int) (n : Nat) : Nat → Dev
  | 0 => dev0 n
  | k + 1 => writeD (bkTo vol n k) (k : Int) 256 (sectZ (fbk vol (k : Int)))
def bkD (vol : Int) (n : Nat) : Dev := flushD (bkTo vol n n)
def bkW (vol : Int) (k : Nat) : List Wt := (List.range k).map fun a => ⟨a, sectZ (fbk vol (a : Int))⟩
theorem bk_to (vol : Int) (n : Nat) : ∀ k, k ≤ n → bkTo vol n k = { dev0 n with ops := k, W := bkW vol k }
  | 0, _ => rfl
  | k + 1, hk => by
    have ih := bk_to vol n k (by omega)
    have hb : hasB { dev0 n with ops := k, W := bkW vol k } (k : Int) = true := decide_eq_true (by show (0 : Int) ≤ (k : Int) ∧ (k : Int) < (n : Int); omega)
    have ho : openE { dev0 n with ops := k, W := bkW vol k } (k : Int) = 0 := by unfold openE; rw [hb]; rfl
    show writeD (bkTo vol n k) (k : Int) 256 _ = _
    rw [ih]
    unfold writeD
    rw [if_pos ⟨ho, rfl⟩, Int.toNat_natCast]
    unfold bkW
    rw [List.range_succ, List.map_append]
    rfl
theorem bk_last (vol : Int) (a : Nat) : ∀ k, lastW (bkW vol k) a = if a < k then some ⟨a, sectZ (fbk vol (a : Int))⟩ else none
  | 0 => rfl
  | k + 1 => by
    unfold bkW
    rw [List.range_succ, List.map_append, List.map_cons, List.map_nil, lastW_snoc]
    show (if k = a then _ else lastW (bkW vol k) a) = _
    rw [bk_last vol a k]
    by_cases q : k = a
    · subst q; rw [if_pos rfl, if_pos (by omega)]
    · rw [if_neg q]
      by_cases r : a < k
      · rw [if_pos r, if_pos (by omega)]
      · rw [if_neg r, if_neg (by omega)]
theorem bk_flush (vol : Int) (n : Nat) : bkD vol n = { finAll { dev0 n with ops := n, W := bkW vol n } (bkW vol n) with W := [] } := by
  unfold bkD
  rw [bk_to vol n n (Nat.le_refl _)]
  rfl
theorem bk_fine (vol : Int) (n : Nat) : Fine n (bkD vol n) ∧ (∀ a, a < n → HasZ (bkD vol n) a (sectZ (fbk vol (a : Int)))) ∧ (bkD vol n).ops = n := by
  rw [bk_flush]
  obtain ⟨h1, h2, h3, h4, h5, h6⟩ := finAll_same (bkW vol n) { dev0 n with ops := n, W := bkW vol n }
  have hn : (finAll { dev0 n with ops := n, W := bkW vol n } (bkW vol n)).n = n := finAll_n _ _
  refine ⟨⟨⟨hn, h4, h5, rfl⟩, fun a => (congrFun h2 a).trans rfl, fun a => (congrFun h3 a).trans rfl⟩, fun a ha => ?_, h1⟩
  obtain ⟨g1, g2⟩ := finAll_has { dev0 n with ops := n, W := bkW vol n } a (bkW vol n)
  rw [bk_last, if_pos ha] at g1 g2
  exact ⟨g2, fun c hc => congrFun g1 c⟩
theorem bk_lims (vol : Int) (n k : Nat) (hk : k ≤ n) : Lim (bkTo vol n k) n ∧ LimM (bkTo vol n k) n := by
  rw [bk_to vol n k hk]
  exact ⟨⟨hk, by show (bkW vol k).length ≤ n; unfold bkW; simp; exact hk, fun _ => Nat.zero_le _⟩, fun _ => Nat.zero_le _⟩
theorem bkD_lims (vol : Int) (n : Nat) : Lim (bkD vol n) n ∧ LimM (bkD vol n) n := by
  obtain ⟨f, _, o⟩ := bk_fine vol n
  exact ⟨⟨by rw [o]; exact Nat.le_refl _, by rw [f.qt.W]; exact Nat.zero_le _, fun a => by rw [f.drops a]; exact Nat.zero_le _⟩, fun a => by rw [f.miss a]; exact Nat.zero_le _⟩
theorem bk_log {vol : Int} {g : Gn} {n : Nat} (hN : 4 + 2 * g.W ≤ n) : DevL vol g (bkD vol n) (fun _ _ => .free) := fun c s hc hs => (bk_fine vol n).2.1 _ (adN_lt hc hs hN)
theorem bk_start {vol : Int} {g : Gn} (hg : g.Ok) {n : Nat} (hN : 4 + 2 * g.W ≤ n) {x : Rg} (hx : RgOk x) (hv : x.vol = vol) (hxg : x.g = g.ge) {st : Nat} (hs : x.start = (st : Int)) (hn : x.next = (st : Int)) : LogS (· = Ct.free) vol g st x.chain (bkD vol n) x (fun _ _ => .free) ([] : List (List Pn)).flatten :=
  ⟨bk_log hN, fun i q h => by simp at h, fun _ _ _ _ _ => rfl, trivial, ⟨rfl, Or.inl rfl⟩, hx, hv, hxg, hs, by rw [hn]; simp, Nat.zero_le _⟩
structure Hurt (W : Nat) (C D : Nat → Nat → Ct) : Prop where
  or : ∀ c s, c < 2 → s < W → D c s = C c s ∨ D c s = .bad
section
variable {vol : Int} {g : Gn} {st : Nat} {ch0 : Int} {d : Dev} {x : Rg} {C D : Nat → Nat → Ct} {T : List (List Pn)} {m : Mi}
theorem left_holds (h : LogS (· = Ct.free) vol g st ch0 d x C T.flatten) (hg : g.Ok) (hD : Hurt g.W C D) (hor : ∀ s, s < g.W → D 0 s = C 0 s ∨ D 1 s = C 1 s) : ∀ (i : Nat) (q : Pn), T.flatten[i]? = some q → q.seq = ((st + i : Nat) : Int) ∧ Holds D ((st + i) % g.W) q := fun i q hq => by
  obtain ⟨h1, h2⟩ := h.pcs i q hq
  have hs : (st + i) % g.W < g.W := Nat.mod_lt _ (by have := hg.w1; omega)
  refine ⟨h1, ?_⟩
  have a0 := h2 0 (by omega)
  have a1 := h2 1 (by omega)
  have o0 := hD.or 0 _ (by omega) hs
  have o1 := hD.or 1 _ (by omega) hs
  rw [a0] at o0
  rw [a1] at o1
  rcases hor _ hs with e | e
  · rw [a0] at e
    exact Or.inl ⟨e, o1⟩
  · rw [a1] at e
    rcases o0 with f | f
    · exact Or.inl ⟨f, Or.inl e⟩
    · exact Or.inr ⟨f, e⟩
theorem told_left (h : LogS (· = Ct.free) vol g st ch0 d x C T.flatten) (hg : g.Ok) (hT : ∀ t ∈ T, GoodTx t) (hD : Hurt g.W C D) (hor : ∀ s, s < g.W → D 0 s = C 0 s ∨ D 1 s = C 1 s) (hm : LogM m D) (hmv : m.vol = vol) (hmg : m.g = g) :
    allI m st ch0 = (T.flatten, false) ∧ tailR (sumM m) T.flatten (st : Int) ch0 = ⟨T.map joinP, x.next, x.chain⟩ := by
  have esm : sumM m = sumR vol g.ge := by funext p; show sumR m.vol m.g.ge p = _; rw [hmv, hmg]
  constructor
  · unfold allI
    refine run_ends hm ?_ (by rw [hmg]; exact h.le) ?_
    · rw [esm, hmg]
      exact takes_of h.fits (left_holds h hg hD hor)
    · rw [hmg]
      by_cases q : T.flatten.length = g.W
      · exact Or.inl q
      · right
        have hs : (st + T.flatten.length) % g.W < g.W := Nat.mod_lt _ (by have := hg.w1; omega)
        have hfr : ∀ c, c < 2 → C c ((st + T.flatten.length) % g.W) = .free := fun c hc => h.rest _ hs (fun i hi => fun e => mod_ne (st := st) (i := T.flatten.length) (j := i) (by have := h.le; omega) (by have := h.le; omega) (by omega) e) c hc
        refine stops_of (fun c hc => ?_) ?_
        · have := hD.or c _ hc hs
          rw [hfr c hc] at this
          exact this
        · have := hor _ hs
          rw [hfr 0 (by omega), hfr 1 (by omega)] at this
          exact this
  · have := tail_txs (sm := sumM m) (T := T) (L := []) (start := (st : Int)) (chain := ch0) hT whole_nil
    rw [List.append_nil] at this
    rw [this, esm, h.aft.1, h.next]
    simp only [Tl.mk.injEq, and_true, true_and]
    omega
end
end Go.Proofs.YteleknojohnlbaaGreat
namespace Go.Proofs.YteleknojohnlbaaGreat
open Go.RowKit
set_option linter.unusedVariables false
set_option maxRecDepth 100000
end Go.Proofs.YteleknojohnlbaaGreat
namespace Go.Proofs.YteleknojohnlbaaGreat
open Go.RowKit
set_option linter.unusedVariables false
set_option maxRecDepth 100000
set_option maxHeartbeats 1600000 in
theorem rgmay_any (g : Ge) (w : World) : Calls Tryz.prog 38 #[.agg (geC g)] w (Ans (.bool (mayG g)) w) := by
  obtain ⟨w1, H, hR⟩ := geR w g
  obtain ⟨x0, x1, x2, x3⟩ := hR.x
  have HR := Lib.hid hR
  clear hR
  cases t1 : mayG g
  · obtain ⟨a, b, c, d⟩ := g
    simp only at x0 x1 x2 x3
    have hcase : (a < 8 ∨ (8 ≤ a ∧ 512 < a)) ∨ ((8 ≤ a ∧ a ≤ 512) ∧ (b < 1 ∨ (1 ≤ b ∧ 32 < b))) ∨ ((8 ≤ a ∧ a ≤ 512) ∧ (1 ≤ b ∧ b ≤ 32) ∧ (c < 1 ∨ (1 ≤ c ∧ 16 < c))) ∨ ((8 ≤ a ∧ a ≤ 512) ∧ (1 ≤ b ∧ b ≤ 32) ∧ (1 ≤ c ∧ c ≤ 16) ∧ (d < 1 ∨ (1 ≤ d ∧ 8 < d))) := by
      have h2 : ¬ ((8 ≤ a ∧ a ≤ 512) ∧ (1 ≤ b ∧ b ≤ 32) ∧ (1 ≤ c ∧ c ≤ 16) ∧ (1 ≤ d ∧ d ≤ 8)) := fun q => by
        have : mayG ⟨a, b, c, d⟩ = true := by
          rw [mayG_eq]
          simp only [Bool.and_eq_true, inB_true]
          exact q
        rw [t1] at this
        cases this
      omega
    have HC := Lib.hid hcase
    clear hcase t1
    rcases HC.out with (h | ⟨h, k⟩) | ⟨⟨p1, p2⟩, (h | ⟨h, k⟩)⟩ | ⟨⟨p1, p2⟩, ⟨p3, p4⟩, (h | ⟨h, k⟩)⟩ | ⟨⟨p1, p2⟩, ⟨p3, p4⟩, ⟨p5, p6⟩, (h | ⟨h, k⟩)⟩
    all_goals (
      clear HC
      go_enter Tryz.func38, Tryz.ntmps38
      go_wp2_with ((with_reducible refine wpList_isOp (.box 23 (.tmp 0)) rfl ?_); refine wpList_boxing _ w1 rfl 23 (.tmp 0) rfl (geC ⟨a, b, c, d⟩) H rfl (by exact HR.out.sz) (by exact HR.out.al) ?_)
      go_ret
      exact ⟨rfl, HR.out.ch⟩)
  · obtain ⟨n, hn, rfl⟩ := may_nat t1
    obtain ⟨⟨p1, p2⟩, ⟨p3, p4⟩, ⟨p5, p6⟩, ⟨p7, p8⟩⟩ := may_parts t1
    have HD := Lib.hid (show decide (wrap64 (4 + 2 * n.ge.wal + wrap64 (2 * n.ge.st * (n.ge.k + n.ge.m))) ≤ 4096) = true by
      have b1 := hn.tot2
      have b2 := hn.t2
      have e0 : n.ge.st * (n.ge.k + n.ge.m) = ((n.S * n.q : Nat) : Int) := by unfold Gn.q; rw [Int.natCast_mul, Int.natCast_add]; rfl
      rw [Int.mul_assoc, e0, IntWalk.wrap64_in (2 * ((n.S * n.q : Nat) : Int)) ⟨by omega, by omega⟩, IntWalk.wrap64_in _ ⟨by omega, by omega⟩]
      exact decide_eq_true (by omega))
    clear hn t1
    go_enter Tryz.func38, Tryz.ntmps38
    go_wp2_with ((with_reducible refine wpList_isOp (.box 23 (.tmp 0)) rfl ?_); refine wpList_boxing _ w1 rfl 23 (.tmp 0) rfl (geC n.ge) H rfl (by exact HR.out.sz) (by exact HR.out.al) ?_)
    go_ret
    exact ⟨ret_bool HD.out, HR.out.ch⟩
end Go.Proofs.YteleknojohnlbaaGreat
