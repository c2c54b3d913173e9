/-
  The log's pieces, in plain words: which may be, a piece's body, its sector in a mirror, what a sector tells. keep's keeper: a device and a count, behind calls. Variables that hold a piece of the log.
-/
import Derived.Test.YteleknojohnlbaaGreatMk20
import Derived.Test.YteleknojohnlbaaGreatMk10
import Derived.Test.YteleknojohnlbaaGreatMk11
import Derived.Test.YteleknojohnlbaaGreatMk6
import Derived.Test.YteleknojohnlbaaGreatMk15
import Derived.Laws.ResultCell
namespace Go.Proofs.YteleknojohnlbaaGreat
open Go.RowKit
set_option linter.unusedVariables false
set_option maxRecDepth 100000
structure Pn where
  seq : Int
  ep : Int
  fr : Int
  ch : Int
  ix : Int
  ofn : Int
  B : List Nat
def pcC (p : Pn) (V : Value) : Array Value := #[.int .i64 p.seq, .int .i64 p.ep, .int .i64 p.fr, .int .i64 p.ch, .int .i64 p.ix, .int .i64 p.ofn, V]
def pn0 : Pn := ⟨0, 0, 0, 0, 0, 0, []⟩
def wordsP (p : Pn) : Bool := wordS p.seq && (wordS p.ep && (wordS p.fr && wordS p.ch))
def mayP (p : Pn) : Bool := wordsP p && (decide (p.fr ≤ p.seq) && (inB p.ofn 1 64 && (inB p.ix 0 (p.ofn - 1) && decide (p.B.length ≤ 200))))
structure MayPn (p : Pn) : Prop where
  seq : 0 ≤ p.seq ∧ p.seq ≤ 4294967295
  ep : 0 ≤ p.ep ∧ p.ep ≤ 4294967295
  fr : 0 ≤ p.fr ∧ p.fr ≤ 4294967295
  ch : 0 ≤ p.ch ∧ p.ch ≤ 4294967295
  le : p.fr ≤ p.seq
  ofn : 1 ≤ p.ofn ∧ p.ofn ≤ 64
  ix : 0 ≤ p.ix ∧ p.ix ≤ p.ofn - 1
  len : p.B.length ≤ 200
theorem mayP_iff {p : Pn} : mayP p = true ↔ MayPn p := by
  unfold mayP wordsP wordS
  simp only [Bool.and_eq_true, inB_true, decide_eq_true_eq]
  exact ⟨fun ⟨⟨a, b, c, d⟩, e, f, g, h⟩ => ⟨a, b, c, d, e, f, g, h⟩, fun h => ⟨⟨h.seq, h.ep, h.fr, h.ch⟩, h.le, h.ofn, h.ix, h.len⟩⟩
def numR (p : Pn) : Nat → Int
  | 0 => p.fr
  | 1 => p.ch
  | 2 => p.ix
  | _ => p.ofn
def pnOf (s e : Int) (V : Nat → Int) (B : List Nat) : Pn := ⟨s, e, V 0, V 1, V 2, V 3, B⟩
theorem pnOf_eq {p : Pn} {s e : Int} {V : Nat → Int} {B : List Nat} (h1 : s = p.seq) (h2 : e = p.ep) (h : ∀ j, j < 4 → V j = numR p j) (h3 : B = p.B) : pnOf s e V B = p := by
  subst h1
  subst h2
  subst h3
  unfold pnOf
  rw [h 0 (by omega), h 1 (by omega), h 2 (by omega), h 3 (by omega)]
  rfl
theorem numR_in {p : Pn} (h : mayP p = true) (j : Nat) : 0 ≤ numR p j ∧ numR p j ≤ 4294967295 := by
  have m := mayP_iff.1 h
  have m1 := m.fr
  have m2 := m.ch
  have m3 := m.ix
  have m4 := m.ofn
  match j with
  | 0 => show 0 ≤ p.fr ∧ p.fr ≤ _; omega
  | 1 => show 0 ≤ p.ch ∧ p.ch ≤ _; omega
  | 2 => show 0 ≤ p.ix ∧ p.ix ≤ _; omega
  | j + 3 => show 0 ≤ p.ofn ∧ p.ofn ≤ _; omega
def prefR (p : Pn) (j : Nat) : List Nat := (List.range j).flatMap fun c => Cod.digs (numR p c).toNat
def byR (p : Pn) : List Nat := Cod.digs p.B.length ++ p.B
def restR (p : Pn) (j : Nat) : List Nat := (List.range' j (4 - j)).flatMap (fun c => Cod.digs (numR p c).toNat) ++ byR p
def bodyR (p : Pn) : List Nat := prefR p 4 ++ byR p
theorem rowL_lit (L : List Nat) : rowL L.length (Cod.litZ L) = L := by
  unfold rowL
  apply List.ext_getElem
  · simp
  · intro i h1 h2
    simp [Cod.litZ, h2]
theorem byL_own (p : Pn) : byL p.B.length (Cod.litZ p.B) = byR p := by unfold byL byR; rw [rowL_lit]
theorem prefR_snoc (p : Pn) (j : Nat) : prefR p (j + 1) = prefR p j ++ Cod.digs (numR p j).toNat := by
  unfold prefR
  rw [List.range_succ, List.flatMap_append]
  simp
theorem restR_all (p : Pn) : restR p 0 = bodyR p := by
  unfold restR bodyR prefR
  rw [List.range_eq_range']
theorem restR_next (p : Pn) {j : Nat} (h : j < 4) : restR p j = Cod.digs (numR p j).toNat ++ restR p (j + 1) := by
  unfold restR
  rw [show 4 - j = (4 - (j + 1)) + 1 by omega, List.range'_succ, List.flatMap_cons, List.append_assoc]
theorem restR_last (p : Pn) : restR p 4 = byR p := rfl
theorem prefR_len {p : Pn} (h : mayP p = true) : ∀ j, (prefR p j).length ≤ 5 * j
  | 0 => Nat.le_refl 0
  | j + 1 => by
    have ih := prefR_len h j
    have h5 := digs_len5 (n := (numR p j).toNat) (by have := numR_in h j; omega)
    rw [prefR_snoc, List.length_append]
    omega
theorem prefR_b (p : Pn) (j : Nat) : ∀ c ∈ prefR p j, c < 256 := fun c hc => by
  unfold prefR at hc
  obtain ⟨k, _, hk⟩ := List.mem_flatMap.1 hc
  exact Cod.digs_b _ c hk
theorem body_lenR {p : Pn} (h : mayP p = true) : (bodyR p).length ≤ 225 := by
  have h1 := prefR_len h 4
  have h2 := (mayP_iff.1 h).len
  have h3 := digs_len5 (n := p.B.length) (by omega)
  unfold bodyR byR
  simp only [List.length_append]
  omega
theorem bodyR_b {p : Pn} (h : ∀ x ∈ p.B, x < 256) : ∀ c ∈ bodyR p, c < 256 := fun c hc => by
  rcases List.mem_append.1 hc with q | q
  · exact prefR_b p 4 c q
  · rcases List.mem_append.1 q with q | q
    · exact Cod.digs_b _ c q
    · exact h c q
def addrR (g : Ge) (mir slot : Int) : Int := 4 + mir * g.wal + slot
def mirB (mir : Int) : Bool := inB mir 0 1
def rokB (vol : Int) (g : Ge) (mir : Int) (p : Pn) : Bool := mayP p && (mayG g && (mirB mir && wordS vol))
def rinB (vol : Int) (g : Ge) (mir : Int) (p : Pn) (V : Value) : Bk := ⟨3, vol, addrR g mir (p.seq % g.wal), p.ep, p.seq, V, (bodyR p).length, Cod.litZ (bodyR p)⟩
def sectR (vol : Int) (g : Ge) (mir : Int) (p : Pn) : Nat → Nat := sectZ (rinB vol g mir p undef)
def secRN (vol : Int) (g : Ge) (mir : Int) (p : Pn) : Nat := if rokB vol g mir p then 256 else 0
def secRE (vol : Int) (g : Ge) (mir : Int) (p : Pn) : Int := if rokB vol g mir p then 0 else 1
theorem rokB_iff {vol : Int} {g : Ge} {mir : Int} {p : Pn} : rokB vol g mir p = true ↔ mayP p = true ∧ mayG g = true ∧ (0 ≤ mir ∧ mir ≤ 1) ∧ (0 ≤ vol ∧ vol ≤ 4294967295) := by
  unfold rokB mirB wordS
  simp only [Bool.and_eq_true, inB_true]
theorem slot_in {g : Ge} (h : mayG g = true) {s : Int} (hs : 0 ≤ s) : 0 ≤ s % g.wal ∧ s % g.wal < g.wal := by
  obtain ⟨⟨a1, a2⟩, _⟩ := may_parts h
  exact ⟨Int.emod_nonneg _ (by omega), Int.emod_lt_of_pos _ (by omega)⟩
theorem addr_in {g : Ge} (h : mayG g = true) {mir s : Int} (hm : 0 ≤ mir ∧ mir ≤ 1) (hs : 0 ≤ s ∧ s < g.wal) : 4 ≤ addrR g mir s ∧ addrR g mir s ≤ 1027 := by
  obtain ⟨⟨a1, a2⟩, _⟩ := may_parts h
  unfold addrR
  obtain rfl | rfl : mir = 0 ∨ mir = 1 := by omega
  · omega
  · omega
theorem rinB_num {vol : Int} {g : Ge} {mir : Int} {p : Pn} (hp : mayP p = true) (hg : mayG g = true) (hm : 0 ≤ mir ∧ mir ≤ 1) (V : Value) : (numB (rinB vol g mir p V) = wordS vol) ∧ (rinB vol g mir p V).len ≤ 228 := by
  have m := mayP_iff.1 hp
  have m1 := m.seq
  have m2 := m.ep
  have l := body_lenR hp
  have a := addr_in hg hm (slot_in hg m1.1)
  refine ⟨?_, Nat.le_trans l (by omega)⟩
  refine Bool.eq_iff_iff.2 ⟨fun h => inB_true.2 (numB_iff.1 h).vol, fun h => numB_iff.2 ⟨?_, inB_true.1 h, ?_, m2, m1⟩⟩
  · show 1 ≤ (3 : Int) ∧ (3 : Int) ≤ 4; omega
  · show 0 ≤ addrR g mir (p.seq % g.wal) ∧ addrR g mir (p.seq % g.wal) ≤ _; omega
theorem rinB_may {vol : Int} {g : Ge} {mir : Int} {p : Pn} (h : rokB vol g mir p = true) (V : Value) : mayB (rinB vol g mir p V) = true := by
  obtain ⟨h1, h2, h3, h4⟩ := rokB_iff.1 h
  obtain ⟨e1, e2⟩ := rinB_num (vol := vol) h1 h2 h3 V
  unfold mayB
  rw [e1, show wordS vol = true from inB_true.2 h4, Bool.true_and]
  exact decide_eq_true e2
theorem rinB_seal {vol : Int} {g : Ge} {mir : Int} {p : Pn} (hp : mayP p = true) (hg : mayG g = true) (hm : mirB mir = true) (V : Value) : sealN (rinB vol g mir p V) = secRN vol g mir p ∧ sealE (rinB vol g mir p V) = secRE vol g mir p := by
  obtain ⟨e1, e2⟩ := rinB_num (vol := vol) hp hg (inB_true.1 hm) V
  have e : rokB vol g mir p = wordS vol := by unfold rokB; rw [hp, hg, hm]; rfl
  have e3 : mayB (rinB vol g mir p V) = wordS vol := by
    unfold mayB
    rw [e1, decide_eq_true e2, Bool.and_true]
  constructor
  · unfold sealN secRN; rw [e3, e]
  · unfold sealE secRE
    rw [e1, e, if_pos e2]
theorem sectR_b {vol : Int} {g : Ge} {mir : Int} {p : Pn} (h : ∀ x ∈ p.B, x < 256) (m : Nat) : Bytes m (sectR vol g mir p) := sectZ_b (fun c _ => Cod.litZ_b (bodyR_b h) c) m
def SecRPost (vol : Int) (g : Ge) (mir : Int) (p : Pn) (w : World) (e : Ending) (w' : World) : Prop :=
  ∃ A C, e = .returned (.tuple #[.slice A (secRN vol g mir p) C, .int .i64 (secRE vol g mir p)]) ∧ w'.ownsRow w.heap.size /-t-/5 1 (.slice A (secRN vol g mir p) C) (secRN vol g mir p) (bytesL (secRN vol g mir p) (sectR vol g mir p)) ∧ Ch (fun _ => False) w w'
theorem secRPost_no {vol : Int} {g : Ge} {mir : Int} {p : Pn} {w w' : World} (h : rokB vol g mir p = false) (hc : Ch (fun _ => False) w w') : SecRPost vol g mir p w (.returned (.tuple #[.slice none 0 0, .int .i64 1])) w' := by
  have hN : secRN vol g mir p = 0 := by unfold secRN; rw [h]; rfl
  have hE : secRE vol g mir p = 1 := by unfold secRE; rw [h]; rfl
  exact ⟨none, 0, by rw [hN, hE], by rw [hN]; exact World.ownsRow_nil _ _ _ _, hc⟩
theorem secRPost_seal {vol : Int} {g : Ge} {mir : Int} {p : Pn} {w w1 w' : World} {e : Ending} {V : Value} (hp : mayP p = true) (hg : mayG g = true) (hm : mirB mir = true) (hc : Ch (fun _ => False) w w1) (h : SealPost (rinB vol g mir p V) w1 e w') : SecRPost vol g mir p w e w' := by
  obtain ⟨A, C, rfl, h2, h3⟩ := h
  obtain ⟨e1, e2⟩ := rinB_seal (vol := vol) hp hg hm V
  rw [e1] at h2
  refine ⟨A, C, by rw [e1, e2], ?_, hc.trans h3⟩
  obtain ⟨q0, q⟩ := h2
  exact ⟨q0, q.elim Or.inl fun ⟨g, cap, cur, q1, q2, q3⟩ => Or.inr ⟨g, cap, cur, q1, Nat.le_trans hc.size q2, q3⟩⟩
structure TellsR (n : Nat) (z : Nat → Nat) (vol : Int) (g : Ge) (mir slot : Int) (p : Pn) : Prop where
  sec : rokB vol g mir p = true
  n : n = 256
  z : ∀ c, c < 256 → z c = sectR vol g mir p c
  slot : p.seq % g.wal = slot
  byt : ∀ x ∈ p.B, x < 256
section
variable {n : Nat} {z : Nat → Nat} {vol : Int} {g : Ge} {mir slot : Int} {p : Pn}
theorem TellsR.may (h : TellsR n z vol g mir slot p) : mayP p = true := (rokB_iff.1 h.sec).1
theorem TellsR.opens (h : TellsR n z vol g mir slot p) : opensB n z = true := by
  obtain ⟨h1, rfl, h3, _, _⟩ := h
  rw [opensB_eq h3]
  exact opensB_own (rinB_may h1 undef)
theorem TellsR.back (h : TellsR n z vol g mir slot p) (V : Value) : Same (readB V z) (rinB vol g mir p undef) := (readB_at h.z V undef).trans (Go.Proofs.YteleknojohnlbaaGreat.back (rinB_may h.sec undef) undef)
end
def BackR (Y : Pn → Prop) (j n : Nat) (z : Nat → Nat) : Prop := ∀ y, Y y → n = (restR y j).length ∧ ∀ i, i < n → z i = Cod.litZ (restR y j) i
theorem BackR.first {n : Nat} {z : Nat → Nat} {Y : Pn → Prop} (hY : ∀ y, Y y → ∃ vol g mir slot, TellsR n z vol g mir slot y) (V : Value) : BackR Y 0 (openB n z V).len (openB n z V).z := fun y hy => by
  obtain ⟨vol, g, mir, slot, h⟩ := hY y hy
  rw [openB_yes h.opens, restR_all]
  have s := h.back V
  have el : (readB V z).len = (bodyR y).length := s.len
  exact ⟨el, fun c hc => s.z c (by rw [el] at hc; exact hc)⟩
theorem BackR.next {Y : Pn → Prop} {j n k e : Nat} {z : Nat → Nat} (h : BackR Y j n z) (hj : j < 4) (hY : ∀ y, Y y → mayP y = true) (hr : Cod.Rd n z k e) :
    BackR Y (j + 1) (n - Cod.resK T63 z k e) (fun i => z (Cod.resK T63 z k e + i)) ∧ ∀ y, Y y → Cod.resE T63 z k e = 0 ∧ (Cod.resV T63 z k e : Int) = numR y j := by
  have key : ∀ y, Y y → Cod.resV T63 z k e = (numR y j).toNat ∧ Cod.resK T63 z k e = (Cod.digs (numR y j).toNat).length ∧ Cod.resE T63 z k e = 0 := fun y hy => by
    obtain ⟨h1, h2⟩ := h y hy
    have b := numR_in (hY y hy) j
    rw [restR_next y hj] at h1 h2
    obtain ⟨r1, r2⟩ := Cod.rd_digs (m := (numR y j).toNat) (n := n) (z := z) (by omega) (fun i hi => by rw [h2 i (by rw [h1, List.length_append]; omega), flat_left hi]) (by rw [h1, List.length_append]; omega)
    obtain ⟨rfl, rfl⟩ := Cod.rd_one hr r1
    have := Cod.res_ok (top := T63) (k := (Cod.digs (numR y j).toNat).length) (e := 0) (z := z) rfl (by rw [r2]; unfold T63; omega)
    rw [r2] at this
    exact this
  refine ⟨fun y hy => ?_, fun y hy => ?_⟩
  · obtain ⟨h1, h2⟩ := h y hy
    obtain ⟨_, k2, _⟩ := key y hy
    rw [restR_next y hj] at h1 h2
    rw [k2]
    have e1 : n - (Cod.digs (numR y j).toNat).length = (restR y (j + 1)).length := by rw [h1, List.length_append]; omega
    refine ⟨e1, fun c hc => ?_⟩
    rw [e1] at hc
    show z ((Cod.digs (numR y j).toNat).length + c) = _
    rw [h2 _ (by rw [h1, List.length_append]; omega), flat_right]
  · obtain ⟨k1, _, k3⟩ := key y hy
    have b := numR_in (hY y hy) j
    exact ⟨k3, by rw [k1]; omega⟩
theorem BackR.last {Y : Pn → Prop} {n k e : Nat} {z : Nat → Nat} (h : BackR Y 4 n z) (hY : ∀ y, Y y → mayP y = true) (hr : Cod.Rd n z k e) :
    ∀ y, Y y → bE n z k e = 0 ∧ rowL (bL n z k e) (fun i => z (Cod.resK T63 z k e + i)) = y.B := fun y hy => by
  obtain ⟨h1, h2⟩ := h y hy
  rw [restR_last] at h1 h2
  have hl := (mayP_iff.1 (hY y hy)).len
  unfold byR at h1 h2
  obtain ⟨r1, r2⟩ := Cod.rd_digs (m := y.B.length) (n := n) (z := z) (by omega) (fun i hi => by rw [h2 i (by rw [h1, List.length_append]; omega), flat_left hi]) (by rw [h1, List.length_append]; omega)
  obtain ⟨rfl, rfl⟩ := Cod.rd_one hr r1
  obtain ⟨k1, k2, k3⟩ := Cod.res_ok (top := T63) (k := (Cod.digs y.B.length).length) (e := 0) (z := z) rfl (by rw [r2]; unfold T63; omega)
  rw [r2] at k1
  have e0 : bE n z (Cod.digs y.B.length).length 0 = 0 := bE_fine k3 (by rw [k1]; omega) (by rw [k1, k2, h1, List.length_append]; omega)
  refine ⟨e0, ?_⟩
  rw [(b_ok e0).1, k1, k2]
  refine Eq.trans ?_ (rowL_lit y.B)
  unfold rowL
  refine List.map_congr_left fun i hi => ?_
  have hi := List.mem_range.1 hi
  rw [h2 _ (by rw [h1, List.length_append]; omega), flat_right]
def TellR (n : Nat) (z : Nat → Nat) (vol : Int) (g : Ge) (mir slot : Int) (o : Option Pn) : Prop := ∀ y, o = some y ↔ TellsR n z vol g mir slot y
section
variable {n : Nat} {z : Nat → Nat} {vol : Int} {g : Ge} {mir slot : Int}
theorem tellR_one {o o' : Option Pn} (h : TellR n z vol g mir slot o) (k : TellR n z vol g mir slot o') : o = o' := by
  cases o with
  | some y => exact ((k y).2 ((h y).1 rfl)).symm
  | none =>
    cases o' with
    | none => rfl
    | some y => cases (h y).2 ((k y).1 rfl)
end
def optP (o : Option Pn) : Pn := o.getD pn0
end Go.Proofs.YteleknojohnlbaaGreat
namespace Go.Proofs.YteleknojohnlbaaGreat
open Go.RowKit
set_option linter.unusedVariables false
set_option maxRecDepth 100000
structure KpS (base : Nat) (F : Nat → Prop) (w wr : World) (B K : Nat) (d : Dev) (c : Nat) : Prop where
  dev : ∃ p : Ph, p.B = B ∧ DevIs base wr p d ∧ ∀ i, Foot p d i → F i ∨ w.heap.size ≤ i
  kp : wr.heap[K]? = some (.cells #[.pointer (some ⟨B, 0, none⟩), .int .i64 (c : Int)] 178 (0, 0))
  ch : Ch (fun i => F i ∨ i = K) w wr
structure KpF (base : Nat) (F : Nat → Prop) (w : World) (K : Nat) : Prop where
  le : base ≤ w.heap.size
  low : ∀ i, F i → base ≤ i ∧ i < w.heap.size
  off : ¬ F K
  lt : K < w.heap.size
theorem Ch.via {S T U : Nat → Prop} {a b c : World} (h : Ch S a b) (k : Ch T b c) (hS : ∀ i, i < a.heap.size → S i → U i) (hT : ∀ i, i < a.heap.size → T i → U i) : Ch U a c :=
  ⟨k.os.trans h.os, k.tape.trans h.tape, k.output.trans h.output, Nat.le_trans h.size k.size, fun i hi hU => (k.block i (Nat.lt_of_lt_of_le hi h.size) (fun x => hU (hT i hi x))).trans (h.block i hi (fun x => hU (hS i hi x)))⟩
theorem read_bytes {base : Nat} {w : World} {p : Ph} {d : Dev} (h : DevIs base w p d) (a : Int) : Bytes (readL d a) (readZ d a) := fun c hc => by
  unfold readL at hc
  by_cases q : readE d a = 0
  · rw [if_pos q] at hc
    by_cases q2 : openE d a = 0
    · obtain ⟨_, k, rfl, hk⟩ := openE_ok q2
      unfold readZ
      rw [Int.toNat_natCast]
      cases hl : lastW d.W k with
      | none => exact h.byt k c hk hc
      | some x => exact (h.wok x (scan_mem hl).1).2 c hc
    · unfold readE at q; rw [if_neg q2] at q; exact (q2 q).elim
  · rw [if_neg q] at hc; omega
structure BoxR (w w1 : World) (H : Nat) (cs : Array Value) (t : TypeId) : Prop where
  al : w.alloc (.cells cs t) = w1
  sz : w.heap.size = H
  cx : w1.heap[H]? = some (.cells cs t (0, 0))
  ch : Ch (fun _ => False) w w1
theorem boxR (w : World) (cs : Array Value) (t : TypeId) : ∃ w1 H, BoxR w w1 H cs t := ⟨_, _, rfl, rfl, heap_alloc_new w _, (Ch.refl _ w).alloc _ _⟩
structure VarR (w wz wx : World) (H : Nat) (zs cs : Array Value) (t : TypeId) : Prop where
  al : w.alloc (.cells zs t) = wz
  sz : w.heap.size = H
  st : (storeVar t ⟨H, 0, none⟩ (.agg cs)).run Tryz.prog wz = .ok () wx
  cx : wx.heap[H]? = some (.cells cs t (0, 0))
  ch : Ch (fun _ => False) w wx
theorem zero_put (w : World) : (zeroValue 164).run Tryz.prog w = .ok (.agg #[.int .i64 0, .slice none 0 0]) w := by kernel_rfl
theorem zero_kp (w : World) : (zeroValue 178).run Tryz.prog w = .ok (.agg #[.pointer none, .int .i64 0]) w := by kernel_rfl
theorem size_put : (Tryz.prog.info? 164).map (·.size) = some 2 := by kernel_rfl
theorem size_kp : (Tryz.prog.info? 178).map (·.size) = some 2 := by kernel_rfl
theorem varR {t : TypeId} {u v x y : Value} (ht : (Tryz.prog.info? t).map (·.size) = some 2) (hx : x.oneCell' = true) (hy : y.oneCell' = true) (w : World) : ∃ wz wx H, VarR w wz wx H #[u, v] #[x, y] t :=
  ⟨_, w.alloc (.cells #[x, y] t), w.heap.size, rfl, rfl, run_storeVar_new (P := Tryz.prog) w _ _ _ ht rfl (all_oneCell_toArray (cs := [x, y]) fun u hu => by
    rcases List.mem_cons.1 hu with rfl | hu
    · exact hx
    · rw [List.mem_singleton.1 hu]; exact hy), heap_alloc_new _ _, (Ch.refl _ w).alloc _ _⟩
section
variable {base : Nat} {F : Nat → Prop} {w wr w' : World} {B K c : Nat} {d d' : Dev}
theorem KpS.gr (h : KpS base F w wr B K d c) (k : Ch (fun _ => False) wr w') : KpS base F w w' B K d c := by
  obtain ⟨p, h1, h2, h3⟩ := h.dev
  exact ⟨⟨p, h1, h2.gr k, h3⟩, (k.block K (blk_lt h.kp) (fun f => f)).trans h.kp, h.ch.via k (fun _ _ x => x) (fun _ _ f => f.elim)⟩
theorem KpS.c0 (h : KpS base F w wr B K d c) : wr.cell? ⟨K, 0, none⟩ = some (.pointer (some ⟨B, 0, none⟩)) := blk_cell h.kp
theorem KpS.c1 (h : KpS base F w wr B K d c) : wr.cell? ⟨K, 1, none⟩ = some (.int .i64 (c : Int)) := blk_cell h.kp
theorem KpS.fr (h : KpS base F w wr B K d c) (i : Nat) : wr.frozen? ⟨K, i, none⟩ = false := blk_frozen h.kp
theorem KpS.then (h : KpS base F w wr B K d c) (hF : KpF base F w K) {p p' : Ph} (h1 : p.B = B) (h3 : ∀ i, Foot p d i → F i ∨ w.heap.size ≤ i) (q1 : p'.B = p.B) (q2 : DevIs base w' p' d') (q3 : ∀ i, Foot p' d' i → Foot p d i ∨ wr.heap.size ≤ i) (q4 : Ch (Foot p d) wr w') : KpS base F w w' B K d' c := by
  refine ⟨⟨p', q1.trans h1, q2, fun i hi => (q3 i hi).elim (h3 i) fun x => Or.inr (Nat.le_trans h.ch.size x)⟩, (q4.block K (blk_lt h.kp) fun x => ?_).trans h.kp, h.ch.via q4 (fun _ _ x => x) fun i hi x => Or.inl ((h3 i x).elim id fun y => by omega)⟩
  have := hF.lt
  exact (h3 K x).elim hF.off fun y => by omega
theorem KpS.run {r : Value} {f : FuncId} {args : Array Value} (h : KpS base F w wr B K d c) (hF : KpF base F w K) (g : ∀ p : Ph, p.B = B → DevIs base wr p d → (∀ i, Foot p d i → F i ∨ w.heap.size ≤ i) → Calls Tryz.prog f args wr (DPost base p d d' r wr)) :
    Calls Tryz.prog f args wr fun e w' => e = .returned r ∧ KpS base F w w' B K d' c := by
  obtain ⟨p, h1, h2, h3⟩ := h.dev
  refine (g p h1 h2 h3).mono ?_
  rintro e w' ⟨rfl, p', q1, q2, q3, q4⟩
  exact ⟨rfl, h.then hF h1 h3 q1 q2 q3 q4⟩
theorem KpS.row {b o C n : Nat} {z : Nat → Nat} (h : KpS base F w wr B K d c) (hR : RowV w (.slice (some ⟨b, o, none⟩) n C) n z) (hb : ¬ F b) (hk : b ≠ K) : RowV wr (.slice (some ⟨b, o, none⟩) n C) n z :=
  hR.ch' h.ch fun x => x.elim hb hk
theorem KpS.write {b o C n t : Nat} {a : Int} {z : Nat → Nat} (h : KpS base F w wr B K d c) (hF : KpF base F w K) (hR : RowV w (.slice (some ⟨b, o, none⟩) n C) n z) (hb : ¬ F b) (hk : b ≠ K) (hb2 : b < w.heap.size) (hl : Lim d t) (ht : t ≤ 1000000) :
    Calls Tryz.prog 60 #[.pointer (some ⟨B, 0, none⟩), .int .i64 a, .slice (some ⟨b, o, none⟩) n C] wr fun e w' => e = .returned (.int .i64 (writeE d a n)) ∧ KpS base F w w' B K (writeD d a n z) c :=
  h.run hF fun p hp h2 h3 => by
    rw [← hp]
    exact write_any base p d a b o n C z wr h2 (h.row hR hb hk) (fun f => (h3 b f).elim hb fun e => by omega) (by have := hl.ops; omega) (by have := hl.W; omega) (fun a => by have := hl.drops a; omega)
theorem KpS.flush {t : Nat} (h : KpS base F w wr B K d c) (hF : KpF base F w K) (hl : Lim d t) (ht : t ≤ 1000000) :
    Calls Tryz.prog 61 #[.pointer (some ⟨B, 0, none⟩)] wr fun e w' => e = .returned (.int .i64 (flushE d)) ∧ KpS base F w w' B K (flushD d) c :=
  h.run hF fun p hp h2 h3 => by
    rw [← hp]
    exact flush_any base p d wr h2 (by have := hl.W; omega)
theorem KpS.read {t : Nat} {a : Int} (h : KpS base F w wr B K d c) (hF : KpF base F w K) (hl : Lim d t) (ht : t ≤ 1000000) :
    Calls Tryz.prog 108 #[.pointer (some ⟨B, 0, none⟩), .int .i64 a] wr fun e w' => ∃ A C, e = .returned (.tuple #[.slice A (readL d a) C, .int .i64 (readE d a)]) ∧ RowV w' (.slice A (readL d a) C) (readL d a) (readZ d a) ∧ KpS base F w w' B K (readD d a) c := by
  obtain ⟨p, h1, h2, h3⟩ := h.dev
  refine (h1 ▸ read_any base p d a wr h2 (by have := hl.ops; omega) (by have := hl.W; omega)).mono ?_
  rintro e w' ⟨v, rfl, e1, e2, e3⟩
  have hr := ownsRow_rowV e2 (by unfold readL; split <;> omega) (read_bytes h2 a)
  obtain ⟨A, C, rfl, _⟩ := id hr
  have hn : (readD d a).n = d.n := by unfold readD; split <;> rfl
  exact ⟨A, C, rfl, hr, h.then hF h1 h3 rfl e1 (fun i hi => Or.inl ((foot_n hn).1 hi)) e3⟩
theorem KpS.more (h : KpS base F w wr B K d c) (hF : KpF base F w K) {x : Value} (hx : x = .int .i64 ((c + 1 : Nat) : Int)) : KpS base F w (wr.setCell ⟨K, 1, none⟩ x) B K d (c + 1) := by
  subst hx
  obtain ⟨p, h1, h2, h3⟩ := h.dev
  have k : Ch (fun i => i = K) wr (wr.setCell ⟨K, 1, none⟩ (.int .i64 ((c + 1 : Nat) : Int))) := Ch.setCell (S := fun i => i = K) (Ch.refl _ wr) (p := ⟨K, 1, none⟩) (Or.inl rfl) _
  refine ⟨⟨p, h1, h2.ch k fun i hi e => ?_, h3⟩, blk_set h.kp _, h.ch.via k (fun _ _ x => x) fun i _ x => Or.inr x⟩
  subst e
  have := hF.lt
  exact (h3 i hi).elim hF.off fun y => by omega
theorem KpS.put {X : Nat → Prop} {b o sb so sC : Nat} {P : PutP} (h : KpS base F w wr B K d c) (hp : PutIs w X b o sb so sC P) (hX : ∀ i, X i → ¬ F i ∧ i ≠ K) (hb : X b) :
    wr.cell? ⟨b, o, none⟩ = some (.int .i64 P.pl) ∧ wr.cell? ⟨b, o + 1, none⟩ = some (.slice (some ⟨sb, so, none⟩) P.n sC) :=
  ⟨h.ch.cell hp.c0 fun x => x.elim (hX b hb).1 (hX b hb).2, h.ch.cell hp.c1 fun x => x.elim (hX b hb).1 (hX b hb).2⟩
def FN (F : Nat → Prop) (w wr : World) (i : Nat) : Prop := F i ∨ (w.heap.size ≤ i ∧ i < wr.heap.size)
theorem KpF.fn (hF : KpF base F w K) (k : w.heap.size ≤ wr.heap.size) : KpF base (FN F w wr) wr K :=
  ⟨Nat.le_trans hF.le k, fun i hi => hi.elim (fun x => ⟨(hF.low i x).1, Nat.lt_of_lt_of_le (hF.low i x).2 k⟩) fun x => ⟨Nat.le_trans hF.le x.1, x.2⟩, fun hi => hi.elim hF.off fun x => by have := hF.lt; omega, Nat.lt_of_lt_of_le hF.lt k⟩
theorem KpF.gr (hF : KpF base F w K) (k : w.heap.size ≤ w'.heap.size) : KpF base F w' K :=
  ⟨Nat.le_trans hF.le k, fun i hi => ⟨(hF.low i hi).1, Nat.lt_of_lt_of_le (hF.low i hi).2 k⟩, hF.off, Nat.lt_of_lt_of_le hF.lt k⟩
theorem KpS.now (h : KpS base F w wr B K d c) : KpS base (FN F w wr) wr wr B K d c := by
  obtain ⟨p, h1, h2, h3⟩ := h.dev
  exact ⟨⟨p, h1, h2, fun i hi => Or.inl ((h3 i hi).imp id fun x => ⟨x, (h2.foot hi).2⟩)⟩, h.kp, Ch.refl _ wr⟩
theorem KpS.reb (h : KpS base F w w B K d c) (k : Ch (fun _ => False) w w') : KpS base F w' w' B K d c := by
  obtain ⟨p, h1, h2, h3⟩ := h.dev
  exact ⟨⟨p, h1, h2.gr k, fun i hi => Or.inl ((h3 i hi).elim id fun x => by have := (h2.foot hi).2; omega)⟩, (k.block K (blk_lt h.kp) (fun f => f)).trans h.kp, Ch.refl _ w'⟩
theorem KpS.since {c' : Nat} (h : KpS base F w' wr B K d c') (k : Ch (fun _ => False) w w') : KpS base F w wr B K d c' := by
  obtain ⟨p, h1, h2, h3⟩ := h.dev
  exact ⟨⟨p, h1, h2, fun i hi => (h3 i hi).imp id fun x => Nat.le_trans k.size x⟩, h.kp, k.via h.ch (fun _ _ f => f.elim) fun _ _ x => x⟩
theorem KpS.from {c' : Nat} (h : KpS base F w wr B K d c) (q : KpS base (FN F w wr) wr w' B K d' c') : KpS base F w w' B K d' c' := by
  obtain ⟨p, h1, h2, h3⟩ := q.dev
  refine ⟨⟨p, h1, h2, fun i hi => (h3 i hi).elim (fun x => x.imp id fun y => y.1) fun x => Or.inr (Nat.le_trans h.ch.size x)⟩, q.kp, h.ch.via q.ch (fun _ _ x => x) fun i hi x => ?_⟩
  rcases x with (x | x) | x
  · exact Or.inl x
  · omega
  · exact Or.inr x
theorem KpS.lift {r : Value} {f : FuncId} {args : Array Value} {c' : Nat} (h : KpS base F w wr B K d c) (g : Calls Tryz.prog f args wr fun e w' => e = .returned r ∧ KpS base (FN F w wr) wr w' B K d' c') :
    Calls Tryz.prog f args wr fun e w' => e = .returned r ∧ KpS base F w w' B K d' c' :=
  g.mono fun _ _ ⟨he, q⟩ => ⟨he, h.from q⟩
theorem KpS.post {w0 : World} {p : Ph} {d0 : Dev} {r : Value} (h : KpS base (Foot p d0) w wr p.B K d c) (k : Ch (fun _ => False) w0 w) (h0 : w0.heap.size ≤ K) : DPost base p d0 d r w0 (.returned r) wr := by
  obtain ⟨q, h1, h2, h3⟩ := h.dev
  exact ⟨rfl, q, h1, h2, fun i hi => (h3 i hi).imp id fun x => Nat.le_trans k.size x, k.via h.ch (fun _ _ f => f.elim) fun i hi x => x.elim id fun e => by omega⟩
end
end Go.Proofs.YteleknojohnlbaaGreat
namespace Go.Proofs.YteleknojohnlbaaGreat
open Go.RowKit
set_option linter.unusedVariables false
set_option maxRecDepth 100000
theorem size_pc : (Tryz.prog.info? 26).map (·.size) = some 7 := by kernel_rfl
def SlV (V : Value) : Prop := ∃ A n C, V = .slice A n C
theorem one_pc (p : Pn) {V : Value} (h : SlV V) : (pcC p V).all (·.oneCell') = true := by obtain ⟨A, n, C, rfl⟩ := h; unfold pcC; simp [Value.oneCell']
theorem slV_row {w : World} {V : Value} {n : Nat} {z : Nat → Nat} (h : RowV w V n z) : SlV V := by obtain ⟨A, C, e, _⟩ := h; exact ⟨A, n, C, e⟩
theorem slV_nil : SlV (.slice none 0 0) := ⟨_, _, _, rfl⟩
theorem zero_pc (w : World) : (zeroValue 26).run Tryz.prog w = .ok (.agg (pcC pn0 (.slice none 0 0))) w := by kernel_rfl
theorem build_pc (w : World) : (Instr.build 26 #[]).run Tryz.prog w = .ok (.agg (pcC pn0 (.slice none 0 0))) w := by kernel_rfl
theorem load_pc {w : World} {H : Nat} {p : Pn} {V : Value} (h : w.heap[H]? = some (.cells (pcC p V) 26 (0, 0))) : (loadVar 26 ⟨H, 0, none⟩).run Tryz.prog w = .ok (.agg (pcC p V)) w :=
  run_loadVar_row w H _ _ (pcC p V) (0, 0) _ h Tryz.underlying26 rfl (show _ = some 7 by kernel_rfl)
theorem store_pc {w : World} {H : Nat} {a b : Pn} {U V : Value} (h : w.heap[H]? = some (.cells (pcC a U) 26 (0, 0))) (hV : SlV V) :
    (storeVar 26 ⟨H, 0, none⟩ (.agg (pcC b V))).run Tryz.prog w = .ok () (w.setRow H (pcC b V)) :=
  run_storeVar_row w H _ _ (pcC a U) (pcC b V) h size_pc rfl (one_pc b hV)
structure StPc (w w1 : World) (H : Nat) (b : Pn) (V : Value) : Prop where
  st : (storeVar 26 ⟨H, 0, none⟩ (.agg (pcC b V))).run Tryz.prog w = .ok () w1
  cx : w1.heap[H]? = some (.cells (pcC b V) 26 (0, 0))
  ch : Ch (fun j => j = H) w w1
theorem stPc {w : World} {H : Nat} {a : Pn} {U : Value} (b : Pn) {V : Value} (h : w.heap[H]? = some (.cells (pcC a U) 26 (0, 0))) (hV : SlV V) : ∃ w1, StPc w w1 H b V :=
  ⟨_, store_pc h hV, setRow_heap w H (pcC a U) _ _ (0, 0) h, (Ch.refl (fun j => j = H) w).setRow (g := H) (Or.inl rfl) _⟩
structure ZePc (w w1 : World) (H : Nat) : Prop where
  al : w.alloc (.cells (pcC pn0 (.slice none 0 0)) 26) = w1
  sz : w.heap.size = H
  cx : w1.heap[H]? = some (.cells (pcC pn0 (.slice none 0 0)) 26 (0, 0))
  ch : Ch (fun _ => False) w w1
theorem zePc (w : World) : ∃ w1 H, ZePc w w1 H := ⟨_, _, rfl, rfl, heap_alloc_new w _, (Ch.refl _ w).alloc _ _⟩
theorem varPc (p : Pn) {V : Value} (hV : SlV V) (w : World) : ∃ wz wx H, VarR w wz wx H (pcC pn0 (.slice none 0 0)) (pcC p V) 26 :=
  ⟨_, w.alloc (.cells (pcC p V) 26), w.heap.size, rfl, rfl, run_storeVar_new (P := Tryz.prog) w _ _ _ size_pc rfl (one_pc p hV), heap_alloc_new _ _, (Ch.refl _ w).alloc _ _⟩
def PcX (w : World) (H : Nat) (p : Pn) (V : Value) : Prop := (fun w' => w'.cell? ⟨H, 0, none⟩ = some (.int .i64 (p).seq) ∧ w'.cell? ⟨H, 1, none⟩ = some (.int .i64 (p).ep) ∧ w'.cell? ⟨H, 2, none⟩ = some (.int .i64 (p).fr) ∧ w'.cell? ⟨H, 3, none⟩ = some (.int .i64 (p).ch) ∧ w'.cell? ⟨H, 4, none⟩ = some (.int .i64 (p).ix) ∧ w'.cell? ⟨H, 5, none⟩ = some (.int .i64 (p).ofn) ∧ w'.cell? ⟨H, 6, none⟩ = some (V)) w
section
variable {w w' : World} {H : Nat} {p : Pn} {V : Value}
theorem pc_x (h : w.heap[H]? = some (.cells (pcC p V) 26 (0, 0))) : PcX w H p V :=
  ⟨blk_cell h, blk_cell h, blk_cell h, blk_cell h, blk_cell h, blk_cell h, blk_cell h⟩
theorem PcX.ch {S : Nat → Prop} (h : PcX w H p V) (k : Ch S w w') (hS : ¬ S H) : PcX w' H p V := by
  obtain ⟨h0, h1, h2, h3, h4, h5, h6⟩ := h
  exact ⟨k.cell h0 hS, k.cell h1 hS, k.cell h2 hS, k.cell h3 hS, k.cell h4 hS, k.cell h5 hS, k.cell h6 hS⟩
theorem PcX.gr (h : PcX w H p V) (k : Ch (fun _ => False) w w') : PcX w' H p V := h.ch k (fun f => f)
theorem PcX.drew (h : PcX w H p V) : PcX w.drew H p V := h.gr ((Ch.refl _ w).drew)
theorem PcX.all (h : PcX w H p V) : (fun w' => w'.cell? ⟨H, 0, none⟩ = some (.int .i64 (p).seq) ∧ w'.cell? ⟨H, 1, none⟩ = some (.int .i64 (p).ep) ∧ w'.cell? ⟨H, 2, none⟩ = some (.int .i64 (p).fr) ∧ w'.cell? ⟨H, 3, none⟩ = some (.int .i64 (p).ch) ∧ w'.cell? ⟨H, 4, none⟩ = some (.int .i64 (p).ix) ∧ w'.cell? ⟨H, 5, none⟩ = some (.int .i64 (p).ofn) ∧ w'.cell? ⟨H, 6, none⟩ = some (V)) w := h
end
theorem results_pc {fn : Func} {q u : Tmp} (h : fn.results = #[.cell q 26, .tmp u]) (tmps : Array Value) (w : World) (H : Nat) (p : Pn) (V : Value) (hp : tmps.getD q undef = .pointer (some ⟨H, 0, none⟩)) (hg : w.heap[H]? = some (.cells (pcC p V) 26 (0, 0))) :
    (results fn tmps).run Tryz.prog w = .ok (.tuple #[.agg (pcC p V), tmps.getD u undef]) w := by
  rw [results_cell_tmp h, hp]
  simp [asAddr, load_pc hg]
end Go.Proofs.YteleknojohnlbaaGreat
