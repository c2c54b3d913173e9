/-
  What a ring appends, and that it is told again: in plain words. A device that holds a log: what is written on it, and read of it, where nothing goes wrong; in plain words. A log that grows, transaction by transaction, where nothing goes wrong; what is told of it: in plain words.
-/
import Derived.Test.YteleknojohnlbaaGreatMg41
import Derived.Test.YteleknojohnlbaaGreatMg45
namespace Go.Proofs.YteleknojohnlbaaGreat
open Go.RowKit
set_option linter.unusedVariables false
set_option maxRecDepth 100000

/-! ### the pieces of a transaction -/
def ringTo (o : Int) (B : List Nat) (x : Rg) : Nat → Rg
  | 0 => x
  | i + 1 => nxR (ringTo o B x i) (apQ o B (ringTo o B x i) i) 0
def txP (o : Int) (B : List Nat) (x : Rg) (k : Nat) : List Pn := (List.range k).map fun i => apQ o B (ringTo o B x i) i
theorem nx0 (x : Rg) (q : Pn) : nxR x q 0 = { x with next := x.next + 1, chain := sumR x.vol x.g q } := if_pos rfl
structure RingTo (o : Int) (B : List Nat) (x : Rg) (i : Nat) : Prop where
  d : (ringTo o B x i).d = x.d
  vol : (ringTo o B x i).vol = x.vol
  g : (ringTo o B x i).g = x.g
  ep : (ringTo o B x i).ep = x.ep
  fr : (ringTo o B x i).fr = x.fr
  start : (ringTo o B x i).start = x.start
  next : (ringTo o B x i).next = x.next + (i : Int)
theorem ring_to (o : Int) (B : List Nat) (x : Rg) : ∀ i, RingTo o B x i
  | 0 => ⟨rfl, rfl, rfl, rfl, rfl, rfl, by show x.next = x.next + ((0 : Nat) : Int); omega⟩
  | i + 1 => by
    obtain ⟨a1, a2, a3, a4, a5, a6, a7⟩ := ring_to o B x i
    have e : ringTo o B x (i + 1) = _ := nx0 _ _
    refine ⟨by rw [e]; exact a1, by rw [e]; exact a2, by rw [e]; exact a3, by rw [e]; exact a4, by rw [e]; exact a5, by rw [e]; exact a6, ?_⟩
    rw [e]
    show (ringTo o B x i).next + 1 = _
    rw [a7]; omega
theorem txP_len (o : Int) (B : List Nat) (x : Rg) (k : Nat) : (txP o B x k).length = k := by unfold txP; simp
theorem txP_snoc (o : Int) (B : List Nat) (x : Rg) (k : Nat) : txP o B x (k + 1) = txP o B x k ++ [apQ o B (ringTo o B x k) k] := by unfold txP; rw [List.range_succ, List.map_append]; rfl
theorem txP_at {o : Int} {B : List Nat} {x : Rg} {k i : Nat} {q : Pn} (h : (txP o B x k)[i]? = some q) : i < k ∧ q = apQ o B (ringTo o B x i) i := by
  have hi : i < k := by have := (List.getElem?_eq_some_iff.1 h).1; rwa [txP_len] at this
  refine ⟨hi, ?_⟩
  unfold txP at h
  rw [List.getElem?_map, List.getElem?_range hi] at h
  injection h with h
  exact h.symm
theorem txP_good {B : List Nat} {x : Rg} {k : Nat} (hk : 0 < k) : GoodTx (txP (k : Int) B x k) := by
  refine ⟨by rw [txP_len]; exact hk, fun i q h => ?_⟩
  obtain ⟨_, rfl⟩ := txP_at h
  rw [txP_len]
  exact ⟨rfl, rfl⟩
theorem joinP_two (L M : List Pn) : joinP (L ++ M) = joinP L ++ joinP M := by unfold joinP; rw [List.flatMap_append]
theorem txP_join (o : Int) (B : List Nat) (x : Rg) : ∀ k, joinP (txP o B x k) = B.take (k * 200)
  | 0 => by simp [txP, joinP]
  | k + 1 => by
    rw [txP_snoc, joinP_two, txP_join o B x k, Nat.add_mul, List.take_add]
    congr 1
    unfold joinP
    rw [List.flatMap_cons, List.flatMap_nil, List.append_nil]
    rfl
theorem txP_all (o : Int) (B : List Nat) (x : Rg) : joinP (txP o B x (cntN B.length)) = B := by
  rw [txP_join]
  exact List.take_of_length_le (by have := cntN_all (n := B.length); omega)
theorem txP_endS {o : Int} {B : List Nat} {x : Rg} : ∀ {k : Nat} {s : Int}, x.chain = s → endS (sumR x.vol x.g) s (txP o B x k) = (ringTo o B x k).chain
  | 0, s, h => h.symm
  | k + 1, s, h => by
    rw [txP_snoc, endS_app]
    show sumR x.vol x.g (apQ o B (ringTo o B x k) k) = _
    have e : ringTo o B x (k + 1) = _ := nx0 _ _
    rw [e]
    show _ = sumR (ringTo o B x k).vol (ringTo o B x k).g _
    rw [(ring_to o B x k).vol, (ring_to o B x k).g]
theorem txP_endA {o : Int} {B : List Nat} {x : Rg} {k : Nat} {a : Pn} : endA a (txP o B x (k + 1)) = apQ o B (ringTo o B x k) k := by
  rw [txP_snoc, endA_app]
  rfl
/-! ### what fits -/
/-- A ring goes on behind a piece. -/
def RgAft (a : Pn) (s : Int) (x : Rg) : Prop := x.chain = s ∧ (a.ofn = 0 ∨ (x.ep = a.ep ∧ x.fr = a.fr) ∨ (a.ep < x.ep ∧ x.fr = x.next))
theorem aft_fits {a : Pn} {s : Int} {x : Rg} (h : RgAft a s x) (o : Int) (B : List Nat) (i : Nat) : fitsP a s (apQ o B x i) = true := by
  obtain ⟨h1, h2⟩ := h
  unfold fitsP
  rw [if_pos (show (apQ o B x i).ch = s from h1)]
  unfold goesOn
  by_cases q : a.ofn = 0
  · rw [if_pos q]
  · rw [if_neg q]
    show (if x.ep = a.ep then decide (x.fr = a.fr) else (decide (a.ep < x.ep) && decide (x.fr = x.next))) = true
    rcases h2 with e | ⟨e, e2⟩ | ⟨e, e2⟩
    · exact absurd e q
    · rw [if_pos e]; exact decide_eq_true e2
    · rw [if_neg (by omega), decide_eq_true e, decide_eq_true e2]; rfl
theorem aft_next (o : Int) (B : List Nat) (x : Rg) (i : Nat) : RgAft (apQ o B x i) (sumR x.vol x.g (apQ o B x i)) (nxR x (apQ o B x i) 0) := by
  rw [nx0]
  exact ⟨rfl, Or.inr (Or.inl ⟨rfl, rfl⟩)⟩
def FitsL (sm : Pn → Int) : Pn → Int → List Pn → Prop
  | _, _, [] => True
  | a, s, p :: P => fitsP a s p = true ∧ FitsL sm p (sm p) P
theorem fits_app {sm : Pn → Int} : ∀ {P Q : List Pn} {a : Pn} {s : Int}, FitsL sm a s P → FitsL sm (endA a P) (endS sm s P) Q → FitsL sm a s (P ++ Q)
  | [], Q, a, s, _, h => h
  | p :: P, Q, a, s, h, h2 => ⟨h.1, fits_app h.2 h2⟩
theorem tx_fits {o : Int} {B : List Nat} {x : Rg} {a : Pn} {s : Int} (h : RgAft a s x) : ∀ k, FitsL (sumR x.vol x.g) a s (txP o B x k) ∧ RgAft (endA a (txP o B x k)) (endS (sumR x.vol x.g) s (txP o B x k)) (ringTo o B x k)
  | 0 => ⟨trivial, h⟩
  | k + 1 => by
    obtain ⟨h1, h2⟩ := tx_fits (o := o) (B := B) h k
    have e1 := ring_to o B x k
    rw [txP_snoc]
    refine ⟨fits_app h1 ⟨aft_fits h2 o B k, trivial⟩, ?_⟩
    rw [endA_app, endS_app]
    have := aft_next o B (ringTo o B x k) k
    rw [e1.vol, e1.g] at this
    exact this
/-! ### what the slots hold -/
/-- In a slot stands that piece, in one mirror at least, and nothing else. -/
def Holds (C : Nat → Nat → Ct) (sl : Nat) (q : Pn) : Prop := (C 0 sl = .pc q ∧ (C 1 sl = .pc q ∨ C 1 sl = .bad)) ∨ (C 0 sl = .bad ∧ C 1 sl = .pc q)
theorem atS_own {q : Pn} {k : Nat} (h : q.seq = (k : Int)) : atS (some q) (k : Int) = some q := if_pos h
theorem holds_find {W : Nat} {C : Nat → Nat → Ct} {k : Nat} {q a : Pn} {s : Int} (h : Holds C (k % W) q) (hs : q.seq = (k : Int)) (hf : fitsP a s q = true) : (cdC W C k).find? (fitsP a s) = some q := by
  have hn : atS (none : Option Pn) (k : Int) = none := rfl
  unfold cdC
  rcases h with ⟨h0, h1 | h1⟩ | ⟨h0, h1⟩
  · rw [h0, h1]
    show (candR (atS (some q) _) (atS (some q) _)).find? _ = _
    rw [atS_own hs]
    show (if q.ep < q.ep then [q, q] else [q, q]).find? _ = _
    rw [if_neg (by omega), List.find?_cons, hf]
  · rw [h0, h1]
    show (candR (atS (some q) _) (atS none _)).find? _ = _
    rw [atS_own hs, hn]
    show [q].find? _ = _
    rw [List.find?_cons, hf]
  · rw [h0, h1]
    show (candR (atS none _) (atS (some q) _)).find? _ = _
    rw [atS_own hs, hn]
    show [q].find? _ = _
    rw [List.find?_cons, hf]
theorem takes_of {W : Nat} {C : Nat → Nat → Ct} {sm : Pn → Int} : ∀ {P : List Pn} {a : Pn} {s : Int} {k : Nat}, FitsL sm a s P → (∀ (i : Nat) (q : Pn), P[i]? = some q → q.seq = ((k + i : Nat) : Int) ∧ Holds C ((k + i) % W) q) → Takes W C sm a s k P
  | [], _, _, _, _, _ => trivial
  | p :: P, a, s, k, hf, h => by
    obtain ⟨h1, h2⟩ := h 0 p rfl
    rw [Nat.add_zero] at h1 h2
    refine ⟨holds_find h2 h1 hf.1, takes_of hf.2 fun i q hq => ?_⟩
    have := h (i + 1) q (by rw [List.getElem?_cons_succ]; exact hq)
    rw [show k + 1 + i = k + (i + 1) by omega]
    exact this
/-- A slot where nothing stands, and one of both sectors is clean. -/
theorem stops_of {W : Nat} {C : Nat → Nat → Ct} {a : Pn} {s : Int} {k : Nat} (h0 : ∀ c, c < 2 → C c (k % W) = .free ∨ C c (k % W) = .bad) (h1 : C 0 (k % W) = .free ∨ C 1 (k % W) = .free) : StopsC W C a s k := by
  have t : ∀ c, c < 2 → tel (C c (k % W)) = none := fun c hc => by
    rcases h0 c hc with e | e <;> rw [e] <;> rfl
  constructor
  · unfold cdC
    rw [t 0 (by omega), t 1 (by omega)]
    rfl
  · unfold clS
    rcases h1 with e | e
    · rw [e]; rfl
    · rw [e]
      show (clC (C 0 (k % W)) || true) = true
      exact Bool.or_true _
#print axioms takes_of
#print axioms txP_all
end Go.Proofs.YteleknojohnlbaaGreat
namespace Go.Proofs.YteleknojohnlbaaGreat
open Go.RowKit
set_option linter.unusedVariables false
set_option maxRecDepth 100000

/-! ### a device that holds it -/
def adN (g : Gn) (c s : Nat) : Nat := 4 + c * g.W + s
theorem adN_eq (g : Gn) (c s : Nat) : (adN g c s : Int) = addrR g.ge (c : Int) (s : Int) := by
  show ((4 + c * g.W + s : Nat) : Int) = 4 + (c : Int) * (g.W : Int) + (s : Int)
  rw [Int.natCast_add, Int.natCast_add, Int.natCast_mul]
  rfl
theorem adN_inj {g : Gn} {c c' s s' : Nat} (hc : c < 2) (hc' : c' < 2) (hs : s < g.W) (hs' : s' < g.W) (h : adN g c s = adN g c' s') : c = c' ∧ s = s' := by
  unfold adN at h
  obtain rfl | rfl : c = 0 ∨ c = 1 := by omega
  · obtain rfl | rfl : c' = 0 ∨ c' = 1 := by omega
    · omega
    · omega
  · obtain rfl | rfl : c' = 0 ∨ c' = 1 := by omega
    · omega
    · omega
theorem adN_lt {g : Gn} {c s N : Nat} (hc : c < 2) (hs : s < g.W) (hN : 4 + 2 * g.W ≤ N) : adN g c s < N := by
  unfold adN
  obtain rfl | rfl : c = 0 ∨ c = 1 := by omega
  · omega
  · omega
def OnDev (vol : Int) (g : Gn) (d : Dev) (c s : Nat) : Ct → Prop
  | .free => HasZ d (adN g c s) (sectZ (fbk vol (adN g c s : Int)))
  | .pc q => HasZ d (adN g c s) (sectR vol g.ge (c : Int) q) ∧ rokB vol g.ge 0 q = true ∧ q.seq % g.ge.wal = (s : Int) ∧ ∀ y ∈ q.B, y < 256
  | .bad => d.lost (adN g c s) = true ∨ opensB 256 (d.has (adN g c s)) = false
def DevL (vol : Int) (g : Gn) (d : Dev) (C : Nat → Nat → Ct) : Prop := ∀ c s : Nat, c < 2 → s < g.W → OnDev vol g d c s (C c s)
theorem OnDev.same {vol : Int} {g : Gn} {d d' : Dev} {c s : Nat} {ct : Ct} (h : OnDev vol g d c s ct) (e1 : d'.has (adN g c s) = d.has (adN g c s)) (e2 : d'.lost (adN g c s) = d.lost (adN g c s)) : OnDev vol g d' c s ct := by
  have hz : ∀ z, HasZ d (adN g c s) z → HasZ d' (adN g c s) z := fun z h => ⟨by rw [e2]; exact h.1, fun i hi => by rw [e1]; exact h.2 i hi⟩
  cases ct with
  | free => exact hz _ h
  | pc q => exact ⟨hz _ h.1, h.2⟩
  | bad => exact h.imp (fun h => by rw [e2]; exact h) (fun h => by rw [e1]; exact h)
def setC (C : Nat → Nat → Ct) (sl : Nat) (q : Pn) (c s : Nat) : Ct := if s = sl then .pc q else C c s
def slN (g : Gn) (q : Pn) : Nat := (q.seq % g.ge.wal).toNat
theorem slN_eq {g : Gn} (hg : g.Ok) {q : Pn} : (slN g q : Int) = q.seq % g.ge.wal ∧ slN g q < g.W := by
  have hw : g.ge.wal = (g.W : Int) := rfl
  have h1 := hg.w1
  have h2 : 0 ≤ q.seq % g.ge.wal := Int.emod_nonneg _ (by omega)
  have h3 : q.seq % g.ge.wal < g.ge.wal := Int.emod_lt_of_pos _ (by omega)
  unfold slN
  exact ⟨Int.toNat_of_nonneg h2, by omega⟩
theorem put_at {g : Gn} (hg : g.Ok) {x : Rg} (hx : x.g = g.ge) {q : Pn} (c : Nat) : putR x q c = ⟨(adN g c (slN g q) : Int), 256, sectR x.vol g.ge (c : Int) q⟩ := by
  unfold putR
  rw [hx, adN_eq, (slN_eq hg).1]
section
variable {vol : Int} {g : Gn} {N : Nat} {d : Dev} {C : Nat → Nat → Ct}
/-- A piece is written, where nothing goes wrong. -/
theorem write_fine (hg : g.Ok) (hN : 4 + 2 * g.W ≤ N) (h : Fine N d) (hL : DevL vol g d C) {x : Rg} {q : Pn} (hv : x.vol = vol) (hx : x.g = g.ge) (hr : rokB vol g.ge 0 q = true) (hb : ∀ y ∈ q.B, y < 256) :
    wrE x q d = 0 ∧ Fine N (wrD x q d) ∧ DevL vol g (wrD x q d) (setC C (slN g q) q) := by
  obtain ⟨s1, s2⟩ := slN_eq hg (q := q)
  have a0 := adN_lt (c := 0) (by omega) s2 hN
  have a1 := adN_lt (c := 1) (by omega) s2 hN
  obtain ⟨e1, f1, z1, o1⟩ := kep_fine (j := 3) a0 (sectR vol g.ge ((0 : Nat) : Int) q) h
  obtain ⟨e2, f2, z2, o2⟩ := kep_fine (j := 3) a1 (sectR vol g.ge ((1 : Nat) : Int) q) f1
  have p0 := put_at hg hx (q := q) 0
  have p1 := put_at hg hx (q := q) 1
  rw [hv] at p0 p1
  have hall : allTo (putR x q) d 2 = ⟨kepD 4 (kepD 4 d (putR x q 0)) (putR x q 1), kepE 4 (kepD 4 d (putR x q 0)) (putR x q 1)⟩ := by
    show (if (allTo (putR x q) d 1).e = 0 then _ else _) = _
    have h1 : allTo (putR x q) d 1 = ⟨kepD 4 d (putR x q 0), kepE 4 d (putR x q 0)⟩ := if_pos rfl
    rw [h1, p0, if_pos e1]
  unfold wrE wrD
  rw [hall, p0, p1]
  refine ⟨e2, f2, fun c s hc hs => ?_⟩
  unfold setC
  by_cases q1 : s = slN g q
  · rw [if_pos q1]
    subst q1
    refine ⟨?_, hr, s1.symm, hb⟩
    obtain rfl | rfl : c = 0 ∨ c = 1 := by omega
    · have ne : adN g 0 (slN g q) ≠ adN g 1 (slN g q) := fun e => by have := (adN_inj (by omega) (by omega) s2 s2 e).1; omega
      obtain ⟨g1, g2⟩ := o2 _ ne
      exact ⟨g2.trans z1.1, fun i hi => (congrFun g1 i).trans (z1.2 i hi)⟩
    · exact z2
  · rw [if_neg q1]
    have n0 : adN g c s ≠ adN g 0 (slN g q) := fun e => q1 (adN_inj hc (by omega) hs s2 e).2
    have n1 : adN g c s ≠ adN g 1 (slN g q) := fun e => q1 (adN_inj hc (by omega) hs s2 e).2
    obtain ⟨g1, g2⟩ := o1 _ n0
    obtain ⟨g3, g4⟩ := o2 _ n1
    exact (hL c s hc hs).same (g3.trans g1) (g4.trans g2)
/-! ### read again -/
theorem ld_reads (h : Qt N d) (hg : g.Ok) (hN : 4 + 2 * g.W ≤ N) {c : Nat} (hc : c < 2) : ∀ k, k ≤ g.W → ldD g.ge (c : Int) d k = { d with ops := d.ops + k }
  | 0, _ => rfl
  | k + 1, hk => by
    have ih := ld_reads h hg hN hc k (by omega)
    show readD (ldD g.ge (c : Int) d k) (addrR g.ge (c : Int) (k : Int)) = _
    rw [ih, ← adN_eq, ((h.ops (d.ops + k)).read (adN_lt hc (by omega) hN)).2.1]
    rfl
theorem ld_slot (h : Qt N d) (hg : g.Ok) (hN : 4 + 2 * g.W ≤ N) {c s : Nat} (hc : c < 2) (hs : s < g.W) : ldN g.ge (c : Int) d s = (if d.lost (adN g c s) then 0 else 256) ∧ ldZ g.ge (c : Int) d s = d.has (adN g c s) := by
  obtain ⟨r1, _, r3⟩ := (h.ops (d.ops + s)).read (adN_lt hc hs hN)
  unfold ldN ldZ
  rw [ld_reads h hg hN hc s (by omega), ← adN_eq]
  refine ⟨?_, r3⟩
  unfold readL
  rw [r1]
  show (if (if d.lost (adN g c s) then (20 : Int) else 0) = 0 then 256 else 0) = _
  cases d.lost (adN g c s) <;> rfl
theorem ld_shows (h : Qt N d) (hg : g.Ok) (hN : 4 + 2 * g.W ≤ N) {c s : Nat} (hc : c < 2) (hs : s < g.W) {ct : Ct} (ho : OnDev vol g d c s ct) : ShowsC vol g.ge (c : Int) (s : Int) (ldN g.ge (c : Int) d s) (ldZ g.ge (c : Int) d s) ct := by
  obtain ⟨e1, e2⟩ := ld_slot h hg hN hc hs
  rw [e1, e2]
  cases ct with
  | free =>
    have ho' : HasZ d (adN g c s) (sectZ (fbk vol (adN g c s : Int))) := ho
    rw [ho'.1]
    refine ⟨rfl, fun i hi => ?_⟩
    rw [← adN_eq]
    exact ho'.2 i hi
  | pc q =>
    obtain ⟨hz, hr, hsl, hb⟩ := ho
    rw [hz.1]
    exact ⟨rok_mirs hr hc, rfl, hz.2, hsl, hb⟩
  | bad =>
    show opensB _ _ = false
    have ho' : d.lost (adN g c s) = true ∨ opensB 256 (d.has (adN g c s)) = false := ho
    cases hl : d.lost (adN g c s)
    · exact ho'.resolve_left (by rw [hl]; decide)
    · rw [if_pos rfl]; rfl
/-- The log, as it was read. -/
def miOf (vol : Int) (g : Gn) (d : Dev) (A0 A1 : Option Addr) (C0 C1 : Nat) : Mi :=
  ⟨vol, g, fun c => if c = 0 then A0 else A1, fun c => if c = 0 then C0 else C1, fun c => if c = 0 then ldN g.ge 0 d else ldN g.ge 1 (ldD g.ge 0 d g.W), fun c => if c = 0 then ldZ g.ge 0 d else ldZ g.ge 1 (ldD g.ge 0 d g.W)⟩
theorem logM_of (h : Qt N d) (hg : g.Ok) (hN : 4 + 2 * g.W ≤ N) (hv : 0 ≤ vol ∧ vol ≤ 4294967295) (hL : DevL vol g d C) (A0 A1 : Option Addr) (C0 C1 : Nat) : LogM (miOf vol g d A0 A1 C0 C1) C := by
  refine ⟨hg, hv, fun c s hc hs => ?_⟩
  obtain rfl | rfl : c = 0 ∨ c = 1 := by omega
  · exact ld_shows h hg hN (c := 0) (by omega) hs (hL 0 s (by omega) hs)
  · have e := ld_reads h hg hN (c := 0) (by omega) g.W (Nat.le_refl _)
    have e' : ldD g.ge 0 d g.W = { d with ops := d.ops + g.W } := e
    show ShowsC vol g.ge ((1 : Nat) : Int) (s : Int) (ldN g.ge 1 (ldD g.ge 0 d g.W) s) (ldZ g.ge 1 (ldD g.ge 0 d g.W) s) (C 1 s)
    rw [e']
    exact ld_shows (h.ops _) hg hN (c := 1) (by omega) hs ((hL 1 s (by omega) hs).same rfl rfl)
end
#print axioms write_fine
#print axioms logM_of
end Go.Proofs.YteleknojohnlbaaGreat
namespace Go.Proofs.YteleknojohnlbaaGreat
open Go.RowKit
set_option linter.unusedVariables false
set_option maxRecDepth 100000

/-- The pieces P stand from number st on; elsewhere what is old. -/
structure LogS (Old : Ct → Prop) (vol : Int) (g : Gn) (st : Nat) (ch0 : Int) (d : Dev) (x : Rg) (C : Nat → Nat → Ct) (P : List Pn) : Prop where
  dev : DevL vol g d C
  pcs : ∀ (i : Nat) (q : Pn), P[i]? = some q → q.seq = ((st + i : Nat) : Int) ∧ ∀ c, c < 2 → C c ((st + i) % g.W) = .pc q
  rest : ∀ s, s < g.W → (∀ i, i < P.length → s ≠ (st + i) % g.W) → ∀ c, c < 2 → Old (C c s)
  fits : FitsL (sumR vol g.ge) pn0 ch0 P
  aft : RgAft (endA pn0 P) (endS (sumR vol g.ge) ch0 P) x
  ok : RgOk x
  vx : x.vol = vol
  gx : x.g = g.ge
  start : x.start = (st : Int)
  next : x.next = ((st + P.length : Nat) : Int)
  le : P.length ≤ g.W
theorem mod_ne {st i j W : Nat} (hi : i < W) (hj : j < W) (h : i ≠ j) : (st + i) % W ≠ (st + j) % W := fun e => by
  have h1 := Nat.div_add_mod (st + i) W
  have h2 := Nat.div_add_mod (st + j) W
  rw [e] at h1
  have h3 : (st + i : Nat) + W * ((st + j) / W) = (st + j) + W * ((st + i) / W) := by omega
  rcases Nat.lt_trichotomy ((st + i) / W) ((st + j) / W) with q | q | q
  · have := Nat.mul_le_mul_left W (show (st + i) / W + 1 ≤ (st + j) / W from q)
    rw [Nat.mul_add, Nat.mul_one] at this
    omega
  · rw [q] at h3; omega
  · have := Nat.mul_le_mul_left W (show (st + j) / W + 1 ≤ (st + i) / W from q)
    rw [Nat.mul_add, Nat.mul_one] at this
    omega
section
variable {Old : Ct → Prop} {vol : Int} {g : Gn} {st N : Nat} {ch0 : Int} {d : Dev} {x : Rg} {C : Nat → Nat → Ct} {P : List Pn}
/-- One piece more. -/
theorem LogS.piece (h : LogS Old vol g st ch0 d x C P) (hg : g.Ok) (hN : 4 + 2 * g.W ≤ N) (hf : Fine N d) (hP : P.length < g.W) (hn : x.next + 1 ≤ 4294967295) {o : Int} (ho : 1 ≤ o ∧ o ≤ 64) {i : Nat} (hi : (i : Int) < o) {B : List Nat} (hB : ∀ y ∈ B, y < 256) :
    wrE x (apQ o B x i) d = 0 ∧ Fine N (wrD x (apQ o B x i) d) ∧ LogS Old vol g st ch0 (wrD x (apQ o B x i) d) (nxR x (apQ o B x i) 0) (setC C ((st + P.length) % g.W) (apQ o B x i)) (P ++ [apQ o B x i]) := by
  have hrok := ap_rok (B := B) h.ok ho hi
  rw [h.vx, h.gx] at hrok
  have hqb : ∀ y ∈ (apQ o B x i).B, y < 256 := pcB_b hB i
  obtain ⟨e1, e2, e3⟩ := write_fine hg hN hf h.dev h.vx h.gx hrok hqb
  obtain ⟨q, hq⟩ : ∃ q, q = apQ o B x i := ⟨_, rfl⟩
  have hqs : q.seq = ((st + P.length : Nat) : Int) := by rw [hq]; exact h.next
  have hsl : slN g q = (st + P.length) % g.W := by
    unfold slN
    rw [hqs, show g.ge.wal = (g.W : Int) from rfl, ← Int.natCast_emod]
    exact Int.toNat_natCast _
  have haf := aft_fits h.aft o B i
  have hax := aft_next o B x i
  rw [← hq] at e1 e2 e3 hrok hqb haf hax ⊢
  rw [hsl] at e3
  refine ⟨e1, e2, e3, ?_, ?_, ?_, ?_, ?_, ?_, ?_, ?_, ?_, ?_⟩
  · intro j p hj
    by_cases c : j < P.length
    · rw [List.getElem?_append_left c] at hj
      obtain ⟨h1, h2⟩ := h.pcs j p hj
      refine ⟨h1, fun m hm => ?_⟩
      unfold setC
      rw [if_neg (mod_ne (by omega) hP (by omega))]
      exact h2 m hm
    · have hj2 : j = P.length := by
        have := (List.getElem?_eq_some_iff.1 hj).1
        rw [List.length_append] at this
        simp only [List.length_cons, List.length_nil] at this
        omega
      subst hj2
      rw [List.getElem?_append_right (Nat.le_refl _), Nat.sub_self] at hj
      injection hj with hj
      subst hj
      exact ⟨hqs, fun m hm => if_pos rfl⟩
  · intro s hs hne c hc
    have hs1 : s ≠ (st + P.length) % g.W := hne P.length (by rw [List.length_append]; simp)
    unfold setC
    rw [if_neg hs1]
    exact h.rest s hs (fun j hj => hne j (by rw [List.length_append]; omega)) c hc
  · exact fits_app h.fits ⟨haf, trivial⟩
  · rw [endA_app, endS_app]
    rw [h.vx, h.gx] at hax
    exact hax
  · rw [nx0]
    refine ⟨h.ok.may, h.ok.vol, h.ok.ep, ?_, sumR_word hqb, hn, ?_⟩
    · show 0 ≤ x.fr ∧ x.fr ≤ x.next + 1; have := h.ok.fr; omega
    · show 0 ≤ x.start ∧ x.start ≤ x.next + 1; have := h.ok.st; omega
  · rw [nx0]; exact h.vx
  · rw [nx0]; exact h.gx
  · rw [nx0]; exact h.start
  · rw [nx0]
    show x.next + 1 = _
    rw [h.next, List.length_append]
    simp only [List.length_cons, List.length_nil]
    omega
  · rw [List.length_append]; simp only [List.length_cons, List.length_nil]; omega
/-- A transaction's first k pieces. -/
theorem LogS.pieces (h : LogS Old vol g st ch0 d x C P) (hg : g.Ok) (hN : 4 + 2 * g.W ≤ N) (hf : Fine N d) {o : Nat} (ho : 1 ≤ o ∧ o ≤ 64) (hP : P.length + o ≤ g.W) (hn : x.next + (o : Int) ≤ 4294967295) {B : List Nat} (hB : ∀ y ∈ B, y < 256) :
    ∀ k, k ≤ o → ∃ C' d', apL (o : Int) B ⟨d, x, 0⟩ (List.range k) = ⟨d', ringTo (o : Int) B x k, 0⟩ ∧ Fine N d' ∧ LogS Old vol g st ch0 d' (ringTo (o : Int) B x k) C' (P ++ txP (o : Int) B x k)
  | 0, _ => ⟨C, d, rfl, hf, by simp only [txP, List.range_zero, List.map_nil, List.append_nil]; exact h⟩
  | k + 1, hk => by
    obtain ⟨C', d', e1, f1, l1⟩ := LogS.pieces h hg hN hf ho hP hn hB k (by omega)
    have hlen : (P ++ txP (o : Int) B x k).length = P.length + k := by rw [List.length_append, txP_len]
    obtain ⟨a1, a2, a3⟩ := l1.piece hg hN f1 (by rw [hlen]; omega) (by rw [(ring_to (o : Int) B x k).next]; omega) (o := (o : Int)) ⟨by omega, by omega⟩ (i := k) (by omega) hB
    refine ⟨setC C' ((st + (P ++ txP (o : Int) B x k).length) % g.W) (apQ (o : Int) B (ringTo (o : Int) B x k) k), wrD (ringTo (o : Int) B x k) (apQ (o : Int) B (ringTo (o : Int) B x k) k) d', ?_, a2, ?_⟩
    · rw [List.range_succ, apL_snoc, e1]
      unfold apStep
      rw [if_pos rfl]
      simp only [a1]
      rfl
    · rw [txP_snoc, ← List.append_assoc]
      exact a3
/-- A whole one. -/
theorem LogS.app (h : LogS Old vol g st ch0 d x C P) (hg : g.Ok) (hN : 4 + 2 * g.W ≤ N) (hf : Fine N d) {B : List Nat} (hB : ∀ y ∈ B, y < 256) (he : apE0 x B.length = 0) :
    ∃ C' d', appS x B d = ⟨d', ringTo (cntR B.length) B x (cntN B.length), 0⟩ ∧ Fine N d' ∧ LogS Old vol g st ch0 d' (ringTo (cntR B.length) B x (cntN B.length)) C' (P ++ txP (cntR B.length) B x (cntN B.length)) := by
  have hc := cntN_eq B.length
  have hp := cntN_pos B.length
  obtain ⟨h1, h2, h3⟩ : ¬ 64 < cntR B.length ∧ ¬ x.g.wal < x.next + cntR B.length - x.start ∧ ¬ 4294967295 < x.next + cntR B.length := by
    unfold apE0 at he
    by_cases q : 64 < cntR B.length
    · rw [if_pos q] at he; cases he
    · rw [if_neg q] at he
      by_cases r : x.g.wal < x.next + cntR B.length - x.start ∨ 4294967295 < x.next + cntR B.length
      · rw [if_pos r] at he; cases he
      · exact ⟨q, fun e => r (Or.inl e), fun e => r (Or.inr e)⟩
  have hw : x.g.wal = (g.W : Int) := by rw [h.gx]; rfl
  have hnx := h.next
  have hst := h.start
  unfold appS
  rw [if_pos he, ← hc]
  exact h.pieces hg hN hf (o := cntN B.length) ⟨hp, by omega⟩ (by omega) (by omega) hB (cntN B.length) (Nat.le_refl _)
end
/-! ### some, in order -/
structure AdS where
  d : Dev
  x : Rg
  out : List (List Nat)
  ok : Bool
def adStep (s : AdS) (B : List Nat) : AdS :=
  if s.ok then (if (appS s.x B s.d).e = 4 ∨ (appS s.x B s.d).e = 2 then ⟨(appS s.x B s.d).d, (appS s.x B s.d).x, s.out, true⟩ else if (appS s.x B s.d).e = 0 then ⟨(appS s.x B s.d).d, (appS s.x B s.d).x, s.out ++ [B], true⟩ else ⟨(appS s.x B s.d).d, (appS s.x B s.d).x, s.out, false⟩) else s
def adTo (s : AdS) (L : List (List Nat)) : AdS := L.foldl adStep s
theorem adTo_snoc (s : AdS) (L : List (List Nat)) (B : List Nat) : adTo s (L ++ [B]) = adStep (adTo s L) B := by unfold adTo; rw [List.foldl_append]; rfl
theorem apE0_is (x : Rg) (n : Nat) : apE0 x n = 0 ∨ apE0 x n = 2 ∨ apE0 x n = 4 := by
  unfold apE0
  split
  · exact Or.inr (Or.inl rfl)
  · split
    · exact Or.inr (Or.inr rfl)
    · exact Or.inl rfl
section
variable {Old : Ct → Prop} {vol : Int} {g : Gn} {st N : Nat} {ch0 : Int} {d : Dev} {x : Rg} {C : Nat → Nat → Ct} {T : List (List Pn)}
/-- All of them, where nothing goes wrong. -/
theorem LogS.all (h : LogS Old vol g st ch0 d x C T.flatten) (hT : ∀ t ∈ T, GoodTx t) (hg : g.Ok) (hN : 4 + 2 * g.W ≤ N) (hf : Fine N d) : ∀ L : List (List Nat), (∀ B ∈ L, ∀ y ∈ B, y < 256) →
    ∃ C' T', (adTo ⟨d, x, [], true⟩ L).ok = true ∧ Fine N (adTo ⟨d, x, [], true⟩ L).d ∧ LogS Old vol g st ch0 (adTo ⟨d, x, [], true⟩ L).d (adTo ⟨d, x, [], true⟩ L).x C' (T ++ T').flatten ∧ (∀ t ∈ T', GoodTx t) ∧ T'.map joinP = (adTo ⟨d, x, [], true⟩ L).out := by
  refine snocI ?_ ?_
  · intro _
    exact ⟨C, [], rfl, hf, by rw [List.append_nil]; exact h, fun t ht => by simp at ht, rfl⟩
  · intro L B ih hL
    obtain ⟨C', T', a1, a2, a3, a4, a5⟩ := ih fun B' hB' => hL B' (List.mem_append_left _ hB')
    have hB := hL B (List.mem_append_right _ (List.mem_singleton.2 rfl))
    rw [adTo_snoc]
    unfold adStep
    rw [if_pos a1]
    obtain ⟨s, hs⟩ : ∃ s, s = adTo ⟨d, x, [], true⟩ L := ⟨_, rfl⟩
    rw [← hs] at a1 a2 a3 a5 ⊢
    rcases apE0_is s.x B.length with he | he
    · obtain ⟨C2, d2, b1, b2, b3⟩ := a3.app hg hN a2 hB he
      rw [b1, if_neg (show ¬ ((0 : Int) = 4 ∨ (0 : Int) = 2) by decide), if_pos (show (0 : Int) = 0 from rfl)]
      refine ⟨C2, T' ++ [txP (cntR B.length) B s.x (cntN B.length)], rfl, b2, ?_, ?_, ?_⟩
      · rw [← List.append_assoc, List.flatten_append, List.flatten_cons, List.flatten_nil, List.append_nil]
        exact b3
      · intro t ht
        rcases List.mem_append.1 ht with q | q
        · exact a4 t q
        · rw [List.mem_singleton.1 q, ← cntN_eq]
          exact txP_good (cntN_pos _)
      · rw [List.map_append, a5, List.map_cons, List.map_nil, txP_all]
    · have e : appS s.x B s.d = ⟨s.d, s.x, apE0 s.x B.length⟩ := if_neg (by rcases he with e | e <;> rw [e] <;> decide)
      rw [e, if_pos (by rcases he with q | q; exact Or.inr q; exact Or.inl q)]
      exact ⟨C', T', rfl, a2, a3, a4, a5⟩
end
#print axioms LogS.all
end Go.Proofs.YteleknojohnlbaaGreat
