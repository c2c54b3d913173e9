/-
  A device and a ring on it, behind calls in a row. The chapter's example of layer 11 (awake), walked.
-/
import Derived.Test.YteleknojohnlbaaGreatMg48
import Derived.Test.YteleknojohnlbaaGreatMg49
import Derived.BigQuiet
namespace Go.Proofs.YteleknojohnlbaaGreat
open Go.RowKit
set_option linter.unusedVariables false
set_option maxRecDepth 100000
set_option linter.unusedSimpArgs false

theorem appS_keep (x : Rg) (B : List Nat) (d : Dev) : (appS x B d).x.d = x.d := by
  unfold appS
  split
  · refine snocI (P := fun l => (apL (cntR B.length) B ⟨d, x, 0⟩ l).x.d = x.d) rfl ?_ _
    intro l i ih
    rw [apL_snoc]
    unfold apStep
    split
    · show (nxR _ _ _).d = x.d
      unfold nxR
      split <;> exact ih
    · exact ih
  · rfl
theorem appS_lim {x : Rg} {B : List Nat} {d : Dev} {t : Nat} (hl : Lim d t) (hm : LimM d t) : Lim (appS x B d).d (t + 1664) ∧ LimM (appS x B d).d (t + 1664) := by
  unfold appS
  split
  · rename_i he
    have hc := cntN_eq B.length
    have h64 : cntN B.length ≤ 64 := by
      unfold apE0 at he
      by_cases q : 64 < cntR B.length
      · rw [if_pos q] at he; cases he
      · omega
    have := ap_lim (o := cntR B.length) (B := B) (s := ⟨d, x, 0⟩) hl hm (List.range (cntN B.length))
    rw [List.length_range] at this
    exact ⟨this.1.mono (by omega), this.2.mono (by omega)⟩
  · exact ⟨hl.mono (by omega), hm.mono (by omega)⟩
structure RgW (w0 : World) (X : Nat → Prop) (B R : Nat) (d : Dev) (x : Rg) (w : World) : Prop where
  ch : Ch (fun _ => False) w0 w
  dev : ∃ p : Ph, p.B = B ∧ DevIs w0.heap.size w p d ∧ ∀ i, X i ∨ i = R → ¬ Foot p d i
  rg : RgIs w R x
  xd : x.d = B
  lo : w0.heap.size ≤ R
  lt : ∀ i, X i → i < w.heap.size
  ne : ∀ i, X i → i ≠ R
section
variable {w0 w w1 : World} {X : Nat → Prop} {B R : Nat} {d d' : Dev} {x : Rg}
theorem RgW.start (h : One w0 B d w) (hc : Ch (fun _ => False) w w1) (hr : RgIs w1 R x) (hR : w.heap.size ≤ R) (hx : x.d = B) : RgW w0 (fun _ => False) B R d x w1 := by
  obtain ⟨h1, p, h2, h3⟩ := h
  refine ⟨h1.trans hc, ⟨p, h2, h3.gr hc, fun i hi hf => ?_⟩, hr, hx, Nat.le_trans h1.size hR, fun _ f => f.elim, fun _ f => f.elim⟩
  have := (h3.foot hf).2
  rcases hi with f | rfl
  · exact f
  · omega
theorem RgW.gr (h : RgW w0 X B R d x w) (hc : Ch (fun _ => False) w w1) : RgW w0 X B R d x w1 := by
  obtain ⟨p, h2, h3, h4⟩ := h.dev
  exact ⟨h.ch.trans hc, ⟨p, h2, h3.gr hc, h4⟩, h.rg.gr hc, h.xd, h.lo, fun i hi => Nat.lt_of_lt_of_le (h.lt i hi) hc.size, h.ne⟩
theorem RgW.one (h : RgW w0 X B R d x w) : One w0 B d w := by
  obtain ⟨p, h2, h3, _⟩ := h.dev
  exact ⟨h.ch, p, h2, h3⟩
/-- Other blocks of one's own: new ones, or those that were. -/
theorem RgW.own (h : RgW w0 X B R d x w) {S X' : Nat → Prop} (hc : Ch S w w1) (hS : ∀ i, S i → X i ∧ w0.heap.size ≤ i) (hX : ∀ i, X' i → X i ∨ (w.heap.size ≤ i ∧ i < w1.heap.size)) : RgW w0 X' B R d x w1 := by
  obtain ⟨p, h2, h3, h4⟩ := h.dev
  have hR : R < w.heap.size := blk_lt (o := .cells (rgC x) 109 (0, 0)) h.rg
  refine ⟨h.ch.new (hc.mono fun i _ hi => (hS i hi).2), ⟨p, h2, h3.ch hc (fun i hi hs => h4 i (Or.inl (hS i hs).1) hi), fun i hi hf => ?_⟩, h.rg.off hc (fun hs => h.ne R (hS R hs).1 rfl), h.xd, h.lo, fun i hi => ?_, fun i hi e => ?_⟩
  · rcases hi with hi | hi
    · rcases hX i hi with q | q
      · exact h4 i (Or.inl q) hf
      · have := (h3.foot hf).2; omega
    · exact h4 i (Or.inr hi) hf
  · rcases hX i hi with q | q
    · exact Nat.lt_of_lt_of_le (h.lt i q) hc.size
    · exact q.2
  · rcases hX i hi with q | q
    · exact h.ne i q e
    · omega
/-- A call of the device. -/
theorem RgW.call {r : Value} {F : FuncId} {args : Array Value} (h : RgW w0 X B R d x w) (g : ∀ p : Ph, p.B = B → DevIs w0.heap.size w p d → Calls Tryz.prog F args w (DPost w0.heap.size p d d' r w)) :
    Calls Tryz.prog F args w fun e w' => e = .returned r ∧ RgW w0 X B R d' x w' ∧ Ch (fun i => w0.heap.size ≤ i ∧ ¬ X i) w w' := by
  obtain ⟨p, h2, h3, h4⟩ := h.dev
  have hR : R < w.heap.size := blk_lt (o := .cells (rgC x) 109 (0, 0)) h.rg
  refine (g p h2 h3).mono ?_
  rintro e w' ⟨rfl, p', a1, a2, a3, a4⟩
  refine ⟨rfl, ⟨h.ch.new (a4.mono fun i _ hi => (h3.foot hi).1), ⟨p', a1.trans h2, a2, fun i hi hf => ?_⟩, h.rg.off a4 (fun hf => h4 R (Or.inr rfl) hf), h.xd, h.lo, fun i hi => Nat.lt_of_lt_of_le (h.lt i hi) a4.size, h.ne⟩, a4.mono fun i _ hi => ⟨(h3.foot hi).1, fun q => h4 i (Or.inl q) hi⟩⟩
  rcases a3 i hf with q | q
  · exact h4 i hi q
  · rcases hi with hi | hi
    · have := h.lt i hi; omega
    · omega
theorem RgW.append (h : RgW w0 X B R d x w) {Bt : List Nat} {A : Option Addr} {n C t : Nat} (hn : n = Bt.length) (hx : RgOk x) (hB : RowV w (.slice A n C) n (Cod.litZ Bt)) (hb : ∀ c ∈ Bt, c < 256) (hoff : Off (fun i => w0.heap.size ≤ i ∧ ¬ X i) (.slice A n C)) (hl : Lim d t) (hm : LimM d t) (ht : t ≤ 890000) :
    Calls Tryz.prog 35 #[.pointer (some ⟨R, 0, none⟩), .slice A n C] w fun e w' => e = .returned (.int .i64 (appS x Bt d).e) ∧ RgW w0 X B R (appS x Bt d).d (appS x Bt d).x w' ∧ Ch (fun i => w0.heap.size ≤ i ∧ ¬ X i) w w' := by
  obtain ⟨p, h2, h3, h4⟩ := h.dev
  subst hn
  have hR : R < w.heap.size := blk_lt (o := .cells (rgC x) 109 (0, 0)) h.rg
  have hS : ∀ i, Foot p d i ∨ i = R → w0.heap.size ≤ i ∧ ¬ X i := fun i hi => by
    rcases hi with hi | rfl
    · exact ⟨(h3.foot hi).1, fun q => h4 i (Or.inl q) hi⟩
    · exact ⟨h.lo, fun q => h.ne _ q rfl⟩
  refine (rappend_any w0.heap.size p d R x Bt A C t w h3 h.rg (h.xd.trans h2.symm) (h4 R (Or.inr rfl)) hx hB hb (hoff.mono hS) hl hm (by omega)).mono ?_
  rintro e w' ⟨rfl, a1, ⟨p', b1, b2, b3⟩, a3⟩
  refine ⟨rfl, ⟨h.ch.new (a3.mono fun i _ hi => (hS i hi).1), ⟨p', b1.trans h2, b2, fun i hi hf => ?_⟩, a1, (appS_keep x Bt d).trans h.xd, h.lo, fun i hi => Nat.lt_of_lt_of_le (h.lt i hi) a3.size, h.ne⟩, a3.mono fun i _ hi => hS i hi⟩
  rcases b3 i hf with q | q
  · exact h4 i hi q
  · rcases hi with hi | hi
    · have := h.lt i hi; omega
    · omega
/-- Both mirrors are read. -/
theorem RgW.load (h : RgW w0 X B R d x w) {g : Gn} (hg : g.Ok) {t : Nat} (hl : Lim d t) (ht : t ≤ 890000) : Calls Tryz.prog 29 #[.pointer (some ⟨B, 0, none⟩), .agg (geC g.ge)] w fun e w' =>
    ∃ B0 B1, e = .returned (.tuple #[.slice (some ⟨B0, 0, none⟩) g.W g.W, .slice (some ⟨B1, 0, none⟩) g.W g.W]) ∧ BsV w' (some ⟨B0, 0, none⟩) g.W g.W (ldN g.ge 0 d) (ldZ g.ge 0 d) ∧ BsV w' (some ⟨B1, 0, none⟩) g.W g.W (ldN g.ge 1 (ldD g.ge 0 d g.W)) (ldZ g.ge 1 (ldD g.ge 0 d g.W)) ∧ RgW w0 X B R (ld2 g.ge d) x w' ∧ Ch (fun i => w0.heap.size ≤ i ∧ ¬ X i) w w' := by
  obtain ⟨p, h2, h3, h4⟩ := h.dev
  have hW : g.ge.wal.toNat = g.W := Int.toNat_natCast _
  have hw2 := hg.w2
  subst h2
  refine (rLoad_any w0.heap.size p g d w h3 hg (by have := hl.ops; omega) (by have := hl.W; omega)).mono ?_
  rintro e w' ⟨B0, B1, rfl, a1, a2, a3, a4⟩
  rw [hW] at a1 a2 ⊢
  have hn : (ld2 g.ge d).n = d.n := by
    unfold ld2
    rw [ldD_n, ldD_n]
  have hf : ∀ i, Foot p (ld2 g.ge d) i → Foot p d i := fun i hi => (foot_n hn).1 hi
  exact ⟨B0, B1, rfl, a1.read (by omega), a2.read (by omega), ⟨h.ch.new (a4.mono fun i _ hi => (h3.foot hi).1), ⟨p, rfl, a3, fun i hi q => h4 i hi (hf i q)⟩, h.rg.off a4 (h4 R (Or.inr rfl)), h.xd, h.lo, fun i hi => Nat.lt_of_lt_of_le (h.lt i hi) a4.size, h.ne⟩, a4.mono fun i _ hi => ⟨(h3.foot hi).1, fun q => h4 i (Or.inl q) hi⟩⟩
theorem RgW.next (h : RgW w0 X B R d x w) : Calls Tryz.prog 30 #[.pointer (some ⟨R, 0, none⟩)] w (Ans (.int .i64 x.next) w) := rnext_any R x w h.rg
theorem RgW.chain (h : RgW w0 X B R d x w) : Calls Tryz.prog 31 #[.pointer (some ⟨R, 0, none⟩)] w (Ans (.int .i64 x.chain) w) := rchain_any R x w h.rg
/-- What was read, as Follow takes it. -/
theorem mi_is {vol : Int} {g : Gn} {B0 B1 : Nat} (hg : g.Ok) (hv : 0 ≤ vol ∧ vol ≤ 4294967295) (h0 : BsV w (some ⟨B0, 0, none⟩) g.W g.W (ldN g.ge 0 d) (ldZ g.ge 0 d)) (h1 : BsV w (some ⟨B1, 0, none⟩) g.W g.W (ldN g.ge 1 (ldD g.ge 0 d g.W)) (ldZ g.ge 1 (ldD g.ge 0 d g.W))) : MiIs w (miOf vol g d (some ⟨B0, 0, none⟩) (some ⟨B1, 0, none⟩) g.W g.W) := ⟨hg, hv, h0, h1⟩
end
#print axioms RgW.append
#print axioms RgW.load
end Go.Proofs.YteleknojohnlbaaGreat
namespace Go.Proofs.YteleknojohnlbaaGreat
open Go.RowKit
set_option linter.unusedVariables false
set_option maxRecDepth 100000
set_option linter.unusedSimpArgs false

/-! ### a sector is lost -/
def flR (a : Int) : Fa := ⟨3, a, 0, 0, 0, 0, 0, 0, 0⟩
theorem flR_ok {a : Int} (h : I64 a) : FaOk (flR a) := by
  have z : I64 0 := by unfold I64; omega
  have b : (0 : Nat) < 256 := by decide
  exact ⟨by unfold I64 flR; simp only; omega, h, z, z, z, b, b, b, b⟩
theorem lose_fin {N : Nat} {d : Dev} (h : Fine N d) {k : Nat} (hk : k < N) : faultD d (flR (k : Int)) = { d with lost := up d.lost k true } := by
  have hb : hasB d (k : Int) = true := decide_eq_true (by rw [h.qt.n]; omega)
  have e : faultD d (flR (k : Int)) = loseD d ((k : Int)).toNat := by
    unfold faultD
    rw [show hasB d (flR (k : Int)).pl = true from hb]
    rfl
  rw [e, Int.toNat_natCast]
  unfold loseD settleD
  rw [h.qt.W]
  obtain ⟨n, has, lost, drops, miss, W, dead, armed, left, ops⟩ := d
  have hW : W = [] := h.qt.W
  subst hW
  rfl
def setBad (C : Nat → Nat → Ct) (c0 s0 : Nat) (c s : Nat) : Ct := if c = c0 ∧ s = s0 then .bad else C c s
theorem lose_log {vol : Int} {g : Gn} {N : Nat} {d : Dev} {C : Nat → Nat → Ct} (hN : 4 + 2 * g.W ≤ N) (h : Fine N d) (hL : DevL vol g d C) {c0 s0 : Nat} (hc0 : c0 < 2) (hs0 : s0 < g.W) : Fine N (faultD d (flR (adN g c0 s0 : Int))) ∧ DevL vol g (faultD d (flR (adN g c0 s0 : Int))) (setBad C c0 s0) := by
  rw [lose_fin h (adN_lt hc0 hs0 hN)]
  refine ⟨⟨⟨h.qt.n, h.qt.dead, h.qt.armed, h.qt.W⟩, h.drops, h.miss⟩, fun c s hc hs => ?_⟩
  unfold setBad
  by_cases q : c = c0 ∧ s = s0
  · rw [if_pos q]
    obtain ⟨rfl, rfl⟩ := q
    exact Or.inl (up_same _ _ _)
  · rw [if_neg q]
    exact (hL c s hc hs).same rfl (up_other _ _ fun e => q (adN_inj hc hc0 hs hs0 e))
/-! ### the example, in plain words -/
def awG : Gn := ⟨8, 1, 2, 1⟩
theorem awG_ok : awG.Ok := ⟨by decide, by decide, by decide, by decide, by decide, by decide, by decide, by decide⟩
def awX (B : Nat) : Rg := rgOf B 7 awG.ge 1 0 0 0
theorem awX_ok (B : Nat) : RgOk (awX B) := ⟨by rfl, by show (0 : Int) ≤ 7 ∧ (7 : Int) ≤ _; omega, by show (0 : Int) ≤ 1 ∧ (1 : Int) ≤ _; omega, by show (0 : Int) ≤ 0 ∧ (0 : Int) ≤ 0; omega, by show (0 : Int) ≤ 0 ∧ (0 : Int) ≤ _; omega, by show (0 : Int) ≤ _; omega, by show (0 : Int) ≤ 0 ∧ (0 : Int) ≤ 0; omega⟩
def abcL : List Nat := [97, 98, 99]
def zerL : List Nat := List.replicate 450 0
theorem zer_len : zerL.length = 450 := List.length_replicate
theorem zer_b : ∀ c ∈ zerL, c < 256 := fun c hc => by rw [(List.mem_replicate.1 hc).2]; omega
theorem abc_b : ∀ c ∈ abcL, c < 256 := by decide
def aw1 (B : Nat) : ApS := appS (awX B) abcL (bkD 7 26)
def aw2 (B : Nat) : ApS := appS (aw1 B).x zerL (aw1 B).d
def aw3 (B : Nat) : Dev := faultD (aw2 B).d (flR 6)
structure AwS (B : Nat) (D : Nat → Nat → Ct) (T : List (List Pn)) : Prop where
  e1 : (aw1 B).e = 0
  e2 : (aw2 B).e = 0
  ok1 : RgOk (aw1 B).x
  next : (aw2 B).x.next = 4
  fine : Fine 26 (aw3 B)
  log : DevL 7 awG (aw3 B) D
  told : ∀ m : Mi, LogM m D → m.vol = 7 → m.g = awG → allI m 0 0 = (T.flatten, false) ∧ tailR (sumM m) T.flatten 0 0 = ⟨[abcL, zerL], 4, (aw2 B).x.chain⟩
  ep : epR T.flatten = 1
theorem epR_end {P : List Pn} {a : Pn} (h : P ≠ []) : epR P = (endA a P).ep := by
  have key : ∀ (P : List Pn) (a : Pn), P ≠ [] → P[P.length - 1]? = some (endA a P) := by
    intro P
    induction P with
    | nil => intro a h; exact absurd rfl h
    | cons p P ih =>
      intro a _
      cases P with
      | nil => rfl
      | cons q P =>
        have := ih p (by simp)
        show (p :: q :: P)[(q :: P).length]? = some (endA p (q :: P))
        rw [show (q :: P).length = ((q :: P).length - 1) + 1 by simp, List.getElem?_cons_succ]
        exact this
  unfold epR
  rw [key P a h]
theorem aw_all (B : Nat) : ∃ D T, AwS B D T := by
  have hN : 4 + 2 * awG.W ≤ 26 := by decide
  obtain ⟨f0, _, _⟩ := bk_fine 7 26
  have l0 := bk_start (vol := 7) awG_ok hN (awX_ok B) rfl rfl (st := 0) rfl rfl
  obtain ⟨C1, d1, a1, f1, l1⟩ := l0.app awG_ok hN f0 abc_b (by rfl)
  have c1 : cntR abcL.length = 1 := rfl
  have n1 : cntN abcL.length = 1 := rfl
  rw [c1, n1] at a1 l1
  have e1 : aw1 B = ⟨d1, ringTo 1 abcL (awX B) 1, 0⟩ := a1
  have r1 := ring_to 1 abcL (awX B) 1
  have c2 : cntR zerL.length = 3 := by rw [zer_len]; rfl
  have n2 : cntN zerL.length = 3 := by rw [zer_len]; rfl
  have h2 : apE0 (ringTo 1 abcL (awX B) 1) zerL.length = 0 := by
    unfold apE0
    rw [c2, r1.g, r1.next, r1.start]
    rfl
  obtain ⟨C2, d2, a2, f2, l2⟩ := l1.app awG_ok hN f1 zer_b h2
  rw [c2, n2] at a2 l2
  have e2 : aw2 B = ⟨d2, ringTo 3 zerL (ringTo 1 abcL (awX B) 1) 3, 0⟩ := by unfold aw2; rw [e1]; exact a2
  have r2 := ring_to 3 zerL (ringTo 1 abcL (awX B) 1) 3
  have hx2 : (aw2 B).x = ringTo 3 zerL (ringTo 1 abcL (awX B) 1) 3 := by rw [e2]
  have hd2 : (aw2 B).d = d2 := by rw [e2]
  have hfl : (([] : List (List Pn)).flatten ++ txP 1 abcL (awX B) 1) ++ txP 3 zerL (ringTo 1 abcL (awX B) 1) 3 = [txP 1 abcL (awX B) 1, txP 3 zerL (ringTo 1 abcL (awX B) 1) 3].flatten := by simp
  rw [hfl] at l2
  have hn4 : (aw2 B).x.next = 4 := by
    rw [hx2, r2.next, r1.next]
    rfl
  have hls := lose_log (c0 := 0) (s0 := 2) hN f2 l2.dev (by omega) (by decide)
  have h6 : (adN awG 0 2 : Int) = 6 := rfl
  rw [h6, ← hd2] at hls
  refine ⟨setBad C2 0 2, [txP 1 abcL (awX B) 1, txP 3 zerL (ringTo 1 abcL (awX B) 1) 3], by rw [e1], by rw [e2], by rw [e1]; exact l1.ok, hn4, hls.1, hls.2, ?_, ?_⟩
  · intro m hm hv hg
    have hT : ∀ t ∈ [txP 1 abcL (awX B) 1, txP 3 zerL (ringTo 1 abcL (awX B) 1) 3], GoodTx t := fun t ht => by
      rcases List.mem_cons.1 ht with rfl | ht
      · exact txP_good (k := 1) (by omega)
      · rw [List.mem_singleton.1 ht]
        exact txP_good (k := 3) (by omega)
    obtain ⟨t1, t2⟩ := told_left (st := 0) l2 awG_ok hT (D := setBad C2 0 2) ⟨fun c s _ _ => by
      unfold setBad
      by_cases q : c = 0 ∧ s = 2
      · rw [if_pos q]; exact Or.inr rfl
      · rw [if_neg q]; exact Or.inl rfl⟩ (fun s _ => Or.inr (by unfold setBad; rw [if_neg (by omega)])) hm hv hg
    refine ⟨t1, t2.trans ?_⟩
    rw [← hx2, hn4]
    have j1 : joinP (txP 1 abcL (awX B) 1) = abcL := txP_all 1 abcL (awX B)
    have j2 : joinP (txP 3 zerL (ringTo 1 abcL (awX B) 1) 3) = zerL := by
      have := txP_all 3 zerL (ringTo 1 abcL (awX B) 1)
      rw [n2] at this
      exact this
    rw [List.map_cons, List.map_cons, List.map_nil, j1, j2]
  · rw [epR_end (a := pn0)]
    · rw [List.flatten_cons, List.flatten_cons, List.flatten_nil, List.append_nil, endA_app]
      have : ∀ a, endA a (txP 3 zerL (ringTo 1 abcL (awX B) 1) 3) = apQ 3 zerL (ringTo 3 zerL (ringTo 1 abcL (awX B) 1) 2) 2 := fun a => txP_endA (k := 2)
      rw [this]
      show (ringTo 3 zerL (ringTo 1 abcL (awX B) 1) 2).ep = 1
      rw [(ring_to 3 zerL _ 2).ep, r1.ep]
      rfl
    · intro e
      have := congrArg List.length e
      rw [← hfl, List.length_append, txP_len] at this
      simp at this
#print axioms aw_all
end Go.Proofs.YteleknojohnlbaaGreat
