/-
  A device and a ring on it, behind calls in a row. The chapter's example of layer 11 (awake), walked. law11.awake, walked. law11.appended, walked: what is appended, as far as it has no error. Where both sectors of a slot that is needed are damaged it is told so; nothing else is told (RingBoth, P11.2, P11.5).
-/
import Derived.Test.YteleknojohnlbaaGreatMk47
import Derived.Test.YteleknojohnlbaaGreatMk48
import Derived.BigQuiet
import Derived.Lib.SlBytesConst
import Derived.Test.YteleknojohnlbaaGreatMk46
namespace Go.Proofs.YteleknojohnlbaaGreat
open Go.RowKit
set_option linter.unusedVariables false
set_option maxRecDepth 100000
set_option linter.unusedSimpArgs false
theorem appS_keep (x : Rg) (B : List Nat) (d : Dev) : (appS x B d).x.d = x.d := by
  unfold appS
  split
  · refine snocI (P := fun l => (apL (cntR B.length) B ⟨d, x, 0⟩ l).x.d = x.d) rfl ?_ _
    intro l i ih
    rw [apL_snoc]
    unfold apStep
    split
    · show (nxR _ _ _).d = x.d
      unfold nxR
      split <;> exact ih
    · exact ih
  · rfl
theorem appS_lim {x : Rg} {B : List Nat} {d : Dev} {t : Nat} (hl : Lim d t) (hm : LimM d t) : Lim (appS x B d).d (t + 1664) ∧ LimM (appS x B d).d (t + 1664) := by
  unfold appS
  split
  · rename_i he
    have hc := cntN_eq B.length
    have h64 : cntN B.length ≤ 64 := by
      unfold apE0 at he
      by_cases q : 64 < cntR B.length
      · rw [if_pos q] at he; cases he
      · omega
    have := ap_lim (o := cntR B.length) (B := B) (s := ⟨d, x, 0⟩) hl hm (List.range (cntN B.length))
    rw [List.length_range] at this
    exact ⟨this.1.mono (by omega), this.2.mono (by omega)⟩
  · exact ⟨hl.mono (by omega), hm.mono (by omega)⟩
structure RgW (w0 : World) (X : Nat → Prop) (B R : Nat) (d : Dev) (x : Rg) (w : World) : Prop where
  ch : Ch (fun _ => False) w0 w
  dev : ∃ p : Ph, p.B = B ∧ DevIs w0.heap.size w p d ∧ ∀ i, X i ∨ i = R → ¬ Foot p d i
  rg : RgIs w R x
  xd : x.d = B
  lo : w0.heap.size ≤ R
  lt : ∀ i, X i → i < w.heap.size
  ne : ∀ i, X i → i ≠ R
section
variable {w0 w w1 : World} {X : Nat → Prop} {B R : Nat} {d d' : Dev} {x : Rg}
theorem RgW.start (h : One w0 B d w) (hc : Ch (fun _ => False) w w1) (hr : RgIs w1 R x) (hR : w.heap.size ≤ R) (hx : x.d = B) : RgW w0 (fun _ => False) B R d x w1 := by
  obtain ⟨h1, p, h2, h3⟩ := h
  refine ⟨h1.trans hc, ⟨p, h2, h3.gr hc, fun i hi hf => ?_⟩, hr, hx, Nat.le_trans h1.size hR, fun _ f => f.elim, fun _ f => f.elim⟩
  have := (h3.foot hf).2
  rcases hi with f | rfl
  · exact f
  · omega
theorem RgW.gr (h : RgW w0 X B R d x w) (hc : Ch (fun _ => False) w w1) : RgW w0 X B R d x w1 := by
  obtain ⟨p, h2, h3, h4⟩ := h.dev
  exact ⟨h.ch.trans hc, ⟨p, h2, h3.gr hc, h4⟩, h.rg.gr hc, h.xd, h.lo, fun i hi => Nat.lt_of_lt_of_le (h.lt i hi) hc.size, h.ne⟩
theorem RgW.own (h : RgW w0 X B R d x w) {S X' : Nat → Prop} (hc : Ch S w w1) (hS : ∀ i, S i → X i ∧ w0.heap.size ≤ i) (hX : ∀ i, X' i → X i ∨ (w.heap.size ≤ i ∧ i < w1.heap.size)) : RgW w0 X' B R d x w1 := by
  obtain ⟨p, h2, h3, h4⟩ := h.dev
  have hR : R < w.heap.size := blk_lt (o := .cells (rgC x) 109 (0, 0)) h.rg
  refine ⟨h.ch.new (hc.mono fun i _ hi => (hS i hi).2), ⟨p, h2, h3.ch hc (fun i hi hs => h4 i (Or.inl (hS i hs).1) hi), fun i hi hf => ?_⟩, h.rg.off hc (fun hs => h.ne R (hS R hs).1 rfl), h.xd, h.lo, fun i hi => ?_, fun i hi e => ?_⟩
  · rcases hi with hi | hi
    · rcases hX i hi with q | q
      · exact h4 i (Or.inl q) hf
      · have := (h3.foot hf).2; omega
    · exact h4 i (Or.inr hi) hf
  · rcases hX i hi with q | q
    · exact Nat.lt_of_lt_of_le (h.lt i q) hc.size
    · exact q.2
  · rcases hX i hi with q | q
    · exact h.ne i q e
    · omega
theorem RgW.call {r : Value} {F : FuncId} {args : Array Value} (h : RgW w0 X B R d x w) (g : ∀ p : Ph, p.B = B → DevIs w0.heap.size w p d → Calls Tryz.prog F args w (DPost w0.heap.size p d d' r w)) :
    Calls Tryz.prog F args w fun e w' => e = .returned r ∧ RgW w0 X B R d' x w' ∧ Ch (fun i => w0.heap.size ≤ i ∧ ¬ X i) w w' := by
  obtain ⟨p, h2, h3, h4⟩ := h.dev
  have hR : R < w.heap.size := blk_lt (o := .cells (rgC x) 109 (0, 0)) h.rg
  refine (g p h2 h3).mono ?_
  rintro e w' ⟨rfl, p', a1, a2, a3, a4⟩
  refine ⟨rfl, ⟨h.ch.new (a4.mono fun i _ hi => (h3.foot hi).1), ⟨p', a1.trans h2, a2, fun i hi hf => ?_⟩, h.rg.off a4 (fun hf => h4 R (Or.inr rfl) hf), h.xd, h.lo, fun i hi => Nat.lt_of_lt_of_le (h.lt i hi) a4.size, h.ne⟩, a4.mono fun i _ hi => ⟨(h3.foot hi).1, fun q => h4 i (Or.inl q) hi⟩⟩
  rcases a3 i hf with q | q
  · exact h4 i hi q
  · rcases hi with hi | hi
    · have := h.lt i hi; omega
    · omega
theorem RgW.append (h : RgW w0 X B R d x w) {Bt : List Nat} {A : Option Addr} {n C t : Nat} (hn : n = Bt.length) (hx : RgOk x) (hB : RowV w (.slice A n C) n (Cod.litZ Bt)) (hb : ∀ c ∈ Bt, c < 256) (hoff : Off (fun i => w0.heap.size ≤ i ∧ ¬ X i) (.slice A n C)) (hl : Lim d t) (hm : LimM d t) (ht : t ≤ 890000) :
    Calls Tryz.prog 35 #[.pointer (some ⟨R, 0, none⟩), .slice A n C] w fun e w' => e = .returned (.int .i64 (appS x Bt d).e) ∧ RgW w0 X B R (appS x Bt d).d (appS x Bt d).x w' ∧ Ch (fun i => w0.heap.size ≤ i ∧ ¬ X i) w w' := by
  obtain ⟨p, h2, h3, h4⟩ := h.dev
  subst hn
  have hR : R < w.heap.size := blk_lt (o := .cells (rgC x) 109 (0, 0)) h.rg
  have hS : ∀ i, Foot p d i ∨ i = R → w0.heap.size ≤ i ∧ ¬ X i := fun i hi => by
    rcases hi with hi | rfl
    · exact ⟨(h3.foot hi).1, fun q => h4 i (Or.inl q) hi⟩
    · exact ⟨h.lo, fun q => h.ne _ q rfl⟩
  refine (rappend_any w0.heap.size p d R x Bt A C t w h3 h.rg (h.xd.trans h2.symm) (h4 R (Or.inr rfl)) hx hB hb (hoff.mono hS) hl hm (by omega)).mono ?_
  rintro e w' ⟨rfl, a1, ⟨p', b1, b2, b3⟩, a3⟩
  refine ⟨rfl, ⟨h.ch.new (a3.mono fun i _ hi => (hS i hi).1), ⟨p', b1.trans h2, b2, fun i hi hf => ?_⟩, a1, (appS_keep x Bt d).trans h.xd, h.lo, fun i hi => Nat.lt_of_lt_of_le (h.lt i hi) a3.size, h.ne⟩, a3.mono fun i _ hi => hS i hi⟩
  rcases b3 i hf with q | q
  · exact h4 i hi q
  · rcases hi with hi | hi
    · have := h.lt i hi; omega
    · omega
theorem RgW.load (h : RgW w0 X B R d x w) {g : Gn} (hg : g.Ok) {t : Nat} (hl : Lim d t) (ht : t ≤ 890000) : Calls Tryz.prog 29 #[.pointer (some ⟨B, 0, none⟩), .agg (geC g.ge)] w fun e w' =>
    ∃ B0 B1, e = .returned (.tuple #[.slice (some ⟨B0, 0, none⟩) g.W g.W, .slice (some ⟨B1, 0, none⟩) g.W g.W]) ∧ BsV w' (some ⟨B0, 0, none⟩) g.W g.W (ldN g.ge 0 d) (ldZ g.ge 0 d) ∧ BsV w' (some ⟨B1, 0, none⟩) g.W g.W (ldN g.ge 1 (ldD g.ge 0 d g.W)) (ldZ g.ge 1 (ldD g.ge 0 d g.W)) ∧ RgW w0 X B R (ld2 g.ge d) x w' ∧ Ch (fun i => w0.heap.size ≤ i ∧ ¬ X i) w w' := by
  obtain ⟨p, h2, h3, h4⟩ := h.dev
  have hW : g.ge.wal.toNat = g.W := Int.toNat_natCast _
  have hw2 := hg.w2
  subst h2
  refine (rLoad_any w0.heap.size p g d w h3 hg (by have := hl.ops; omega) (by have := hl.W; omega)).mono ?_
  rintro e w' ⟨B0, B1, rfl, a1, a2, a3, a4⟩
  rw [hW] at a1 a2 ⊢
  have hn : (ld2 g.ge d).n = d.n := by
    unfold ld2
    rw [ldD_n, ldD_n]
  have hf : ∀ i, Foot p (ld2 g.ge d) i → Foot p d i := fun i hi => (foot_n hn).1 hi
  exact ⟨B0, B1, rfl, a1.read (by omega), a2.read (by omega), ⟨h.ch.new (a4.mono fun i _ hi => (h3.foot hi).1), ⟨p, rfl, a3, fun i hi q => h4 i hi (hf i q)⟩, h.rg.off a4 (h4 R (Or.inr rfl)), h.xd, h.lo, fun i hi => Nat.lt_of_lt_of_le (h.lt i hi) a4.size, h.ne⟩, a4.mono fun i _ hi => ⟨(h3.foot hi).1, fun q => h4 i (Or.inl q) hi⟩⟩
theorem mi_is {vol : Int} {g : Gn} {B0 B1 : Nat} (hg : g.Ok) (hv : 0 ≤ vol ∧ vol ≤ 4294967295) (h0 : BsV w (some ⟨B0, 0, none⟩) g.W g.W (ldN g.ge 0 d) (ldZ g.ge 0 d)) (h1 : BsV w (some ⟨B1, 0, none⟩) g.W g.W (ldN g.ge 1 (ldD g.ge 0 d g.W)) (ldZ g.ge 1 (ldD g.ge 0 d g.W))) : MiIs w (miOf vol g d (some ⟨B0, 0, none⟩) (some ⟨B1, 0, none⟩) g.W g.W) := ⟨hg, hv, h0, h1⟩
end
end Go.Proofs.YteleknojohnlbaaGreat
namespace Go.Proofs.YteleknojohnlbaaGreat
open Go.RowKit
set_option linter.unusedVariables false
set_option maxRecDepth 100000
set_option linter.unusedSimpArgs false
def flR (a : Int) : Fa := ⟨3, a, 0, 0, 0, 0, 0, 0, 0⟩
theorem flR_ok {a : Int} (h : I64 a) : FaOk (flR a) := by
  have z : I64 0 := by unfold I64; omega
  have b : (0 : Nat) < 256 := by decide
  exact ⟨by unfold I64 flR; simp only; omega, h, z, z, z, b, b, b, b⟩
theorem lose_fin {N : Nat} {d : Dev} (h : Fine N d) {k : Nat} (hk : k < N) : faultD d (flR (k : Int)) = { d with lost := up d.lost k true } := by
  have hb : hasB d (k : Int) = true := decide_eq_true (by rw [h.qt.n]; omega)
  have e : faultD d (flR (k : Int)) = loseD d ((k : Int)).toNat := by
    unfold faultD
    rw [show hasB d (flR (k : Int)).pl = true from hb]
    rfl
  rw [e, Int.toNat_natCast]
  unfold loseD settleD
  rw [h.qt.W]
  obtain ⟨n, has, lost, drops, miss, W, dead, armed, left, ops⟩ := d
  have hW : W = [] := h.qt.W
  subst hW
  rfl
def setBad (C : Nat → Nat → Ct) (c0 s0 : Nat) (c s : Nat) : Ct := if c = c0 ∧ s = s0 then .bad else C c s
theorem lose_log {vol : Int} {g : Gn} {N : Nat} {d : Dev} {C : Nat → Nat → Ct} (hN : 4 + 2 * g.W ≤ N) (h : Fine N d) (hL : DevL vol g d C) {c0 s0 : Nat} (hc0 : c0 < 2) (hs0 : s0 < g.W) : Fine N (faultD d (flR (adN g c0 s0 : Int))) ∧ DevL vol g (faultD d (flR (adN g c0 s0 : Int))) (setBad C c0 s0) := by
  rw [lose_fin h (adN_lt hc0 hs0 hN)]
  refine ⟨⟨⟨h.qt.n, h.qt.dead, h.qt.armed, h.qt.W⟩, h.drops, h.miss⟩, fun c s hc hs => ?_⟩
  unfold setBad
  by_cases q : c = c0 ∧ s = s0
  · rw [if_pos q]
    obtain ⟨rfl, rfl⟩ := q
    exact Or.inl (up_same _ _ _)
  · rw [if_neg q]
    exact (hL c s hc hs).same rfl (up_other _ _ fun e => q (adN_inj hc hc0 hs hs0 e))
def awG : Gn := ⟨8, 1, 2, 1⟩
theorem awG_ok : awG.Ok := ⟨by decide, by decide, by decide, by decide, by decide, by decide, by decide, by decide⟩
def awX (B : Nat) : Rg := rgOf B 7 awG.ge 1 0 0 0
theorem awX_ok (B : Nat) : RgOk (awX B) := ⟨by rfl, by show (0 : Int) ≤ 7 ∧ (7 : Int) ≤ _; omega, by show (0 : Int) ≤ 1 ∧ (1 : Int) ≤ _; omega, by show (0 : Int) ≤ 0 ∧ (0 : Int) ≤ 0; omega, by show (0 : Int) ≤ 0 ∧ (0 : Int) ≤ _; omega, by show (0 : Int) ≤ _; omega, by show (0 : Int) ≤ 0 ∧ (0 : Int) ≤ 0; omega⟩
def abcL : List Nat := [97, 98, 99]
def zerL : List Nat := List.replicate 450 0
theorem zer_len : zerL.length = 450 := List.length_replicate
theorem zer_b : ∀ c ∈ zerL, c < 256 := fun c hc => by rw [(List.mem_replicate.1 hc).2]; omega
theorem abc_b : ∀ c ∈ abcL, c < 256 := by decide
def aw1 (B : Nat) : ApS := appS (awX B) abcL (bkD 7 26)
def aw2 (B : Nat) : ApS := appS (aw1 B).x zerL (aw1 B).d
def aw3 (B : Nat) : Dev := faultD (aw2 B).d (flR 6)
structure AwS (B : Nat) (D : Nat → Nat → Ct) (T : List (List Pn)) : Prop where
  e1 : (aw1 B).e = 0
  e2 : (aw2 B).e = 0
  ok1 : RgOk (aw1 B).x
  next : (aw2 B).x.next = 4
  fine : Fine 26 (aw3 B)
  log : DevL 7 awG (aw3 B) D
  told : ∀ m : Mi, LogM m D → m.vol = 7 → m.g = awG → allI m 0 0 = (T.flatten, false) ∧ tailR (sumM m) T.flatten 0 0 = ⟨[abcL, zerL], 4, (aw2 B).x.chain⟩
  ep : epR T.flatten = 1
theorem epR_end {P : List Pn} {a : Pn} (h : P ≠ []) : epR P = (endA a P).ep := by
  have key : ∀ (P : List Pn) (a : Pn), P ≠ [] → P[P.length - 1]? = some (endA a P) := by
    intro P
    induction P with
    | nil => intro a h; exact absurd rfl h
    | cons p P ih =>
      intro a _
      cases P with
      | nil => rfl
      | cons q P =>
        have := ih p (by simp)
        show (p :: q :: P)[(q :: P).length]? = some (endA p (q :: P))
        rw [show (q :: P).length = ((q :: P).length - 1) + 1 by simp, List.getElem?_cons_succ]
        exact this
  unfold epR
  rw [key P a h]
theorem aw_all (B : Nat) : ∃ D T, AwS B D T := by
  have hN : 4 + 2 * awG.W ≤ 26 := by decide
  obtain ⟨f0, _, _⟩ := bk_fine 7 26
  have l0 := bk_start (vol := 7) awG_ok hN (awX_ok B) rfl rfl (st := 0) rfl rfl
  obtain ⟨C1, d1, a1, f1, l1⟩ := l0.app awG_ok hN f0 abc_b (by rfl)
  have c1 : cntR abcL.length = 1 := rfl
  have n1 : cntN abcL.length = 1 := rfl
  rw [c1, n1] at a1 l1
  have e1 : aw1 B = ⟨d1, ringTo 1 abcL (awX B) 1, 0⟩ := a1
  have r1 := ring_to 1 abcL (awX B) 1
  have c2 : cntR zerL.length = 3 := by rw [zer_len]; rfl
  have n2 : cntN zerL.length = 3 := by rw [zer_len]; rfl
  have h2 : apE0 (ringTo 1 abcL (awX B) 1) zerL.length = 0 := by
    unfold apE0
    rw [c2, r1.g, r1.next, r1.start]
    rfl
  obtain ⟨C2, d2, a2, f2, l2⟩ := l1.app awG_ok hN f1 zer_b h2
  rw [c2, n2] at a2 l2
  have e2 : aw2 B = ⟨d2, ringTo 3 zerL (ringTo 1 abcL (awX B) 1) 3, 0⟩ := by unfold aw2; rw [e1]; exact a2
  have r2 := ring_to 3 zerL (ringTo 1 abcL (awX B) 1) 3
  have hx2 : (aw2 B).x = ringTo 3 zerL (ringTo 1 abcL (awX B) 1) 3 := by rw [e2]
  have hd2 : (aw2 B).d = d2 := by rw [e2]
  have hfl : (([] : List (List Pn)).flatten ++ txP 1 abcL (awX B) 1) ++ txP 3 zerL (ringTo 1 abcL (awX B) 1) 3 = [txP 1 abcL (awX B) 1, txP 3 zerL (ringTo 1 abcL (awX B) 1) 3].flatten := by simp
  rw [hfl] at l2
  have hn4 : (aw2 B).x.next = 4 := by
    rw [hx2, r2.next, r1.next]
    rfl
  have hls := lose_log (c0 := 0) (s0 := 2) hN f2 l2.dev (by omega) (by decide)
  have h6 : (adN awG 0 2 : Int) = 6 := rfl
  rw [h6, ← hd2] at hls
  refine ⟨setBad C2 0 2, [txP 1 abcL (awX B) 1, txP 3 zerL (ringTo 1 abcL (awX B) 1) 3], by rw [e1], by rw [e2], by rw [e1]; exact l1.ok, hn4, hls.1, hls.2, ?_, ?_⟩
  · intro m hm hv hg
    have hT : ∀ t ∈ [txP 1 abcL (awX B) 1, txP 3 zerL (ringTo 1 abcL (awX B) 1) 3], GoodTx t := fun t ht => by
      rcases List.mem_cons.1 ht with rfl | ht
      · exact txP_good (k := 1) (by omega)
      · rw [List.mem_singleton.1 ht]
        exact txP_good (k := 3) (by omega)
    obtain ⟨t1, t2⟩ := told_left (st := 0) l2 awG_ok hT (D := setBad C2 0 2) ⟨fun c s _ _ => by
      unfold setBad
      by_cases q : c = 0 ∧ s = 2
      · rw [if_pos q]; exact Or.inr rfl
      · rw [if_neg q]; exact Or.inl rfl⟩ (fun s _ => Or.inr (by unfold setBad; rw [if_neg (by omega)])) hm hv hg
    refine ⟨t1, t2.trans ?_⟩
    rw [← hx2, hn4]
    have j1 : joinP (txP 1 abcL (awX B) 1) = abcL := txP_all 1 abcL (awX B)
    have j2 : joinP (txP 3 zerL (ringTo 1 abcL (awX B) 1) 3) = zerL := by
      have := txP_all 3 zerL (ringTo 1 abcL (awX B) 1)
      rw [n2] at this
      exact this
    rw [List.map_cons, List.map_cons, List.map_nil, j1, j2]
  · rw [epR_end (a := pn0)]
    · rw [List.flatten_cons, List.flatten_cons, List.flatten_nil, List.append_nil, endA_app]
      have : ∀ a, endA a (txP 3 zerL (ringTo 1 abcL (awX B) 1) 3) = apQ 3 zerL (ringTo 3 zerL (ringTo 1 abcL (awX B) 1) 2) 2 := fun a => txP_endA (k := 2)
      rw [this]
      show (ringTo 3 zerL (ringTo 1 abcL (awX B) 1) 2).ep = 1
      rw [(ring_to 3 zerL _ 2).ep, r1.ep]
      rfl
    · intro e
      have := congrArg List.length e
      rw [← hfl, List.length_append, txP_len] at this
      simp at this
end Go.Proofs.YteleknojohnlbaaGreat
namespace Go.Proofs.YteleknojohnlbaaGreat
open Go.RowKit
set_option linter.unusedVariables false
set_option maxRecDepth 100000
set_option linter.unusedSimpArgs false
theorem rnext_same (R : Nat) (x : Rg) (w : World) (h : RgIs w R x) : Calls Tryz.prog 30 #[.pointer (some ⟨R, 0, none⟩)] w fun e w' => e = .returned (.int .i64 x.next) ∧ w = w' := by
  have x9 : w.cell? ⟨R, 9, none⟩ = some (.int .i64 x.next) := blk_cell h
  clear h
  go_enter Tryz.func30, Tryz.ntmps30
  go_wp2
  go_ret
  exact ⟨ret_int rfl, rfl⟩
theorem rchain_same (R : Nat) (x : Rg) (w : World) (h : RgIs w R x) : Calls Tryz.prog 31 #[.pointer (some ⟨R, 0, none⟩)] w fun e w' => e = .returned (.int .i64 x.chain) ∧ w = w' := by
  have x10 : w.cell? ⟨R, 10, none⟩ = some (.int .i64 x.chain) := blk_cell h
  clear h
  go_enter Tryz.func31, Tryz.ntmps31
  go_wp2
  go_ret
  exact ⟨ret_int rfl, rfl⟩
theorem quR {P : Program} {f : FuncId} {args : Array Value} {w : World} {k : Nat} {v : Value} (h : Calls P f args (w.drewN k) fun e w' => e = .returned v ∧ w.drewN k = w') : Calls P f args (w.drewN k) fun e w' => e = .returned v ∧ ∃ m, w' = w.drewN m :=
  h.mono fun _ _ ⟨he, hm⟩ => ⟨he, k, hm.symm⟩
theorem built_flR (a : Int) (w : World) : (Instr.build 48 #[(0, .int .i64 3), (1, .int .i64 a)]).run Tryz.prog w = .ok (.agg (faC (flR a))) w := run_build w _ _ _ (by kernel_rfl)
theorem aw_lims (B : Nat) : (Lim (bkD 7 26) 26 ∧ LimM (bkD 7 26) 26) ∧ (Lim (aw1 B).d 1690 ∧ LimM (aw1 B).d 1690) ∧ (Lim (aw2 B).d 3354 ∧ LimM (aw2 B).d 3354) ∧ Lim (aw3 B) 3355 := by
  have h0 := bkD_lims 7 26
  have h1 := appS_lim (x := awX B) (B := abcL) h0.1 h0.2
  have h2 := appS_lim (x := (aw1 B).x) (B := zerL) h1.1 h1.2
  exact ⟨h0, h1, h2, ((near_fault (aw2 B).d (flR 6)).lim h2.1 h2.2).1⟩
theorem abc_row (w : World) : RowV (w.alloc (.cells #[.int .u8 97, .int .u8 98, .int .u8 99] /-t-/5 (3, 4))) (.slice (some ⟨w.heap.size, 0, none⟩) 3 3) 3 (Cod.litZ abcL) := lit_row w [97, 98, 99] 3 (3, 4) rfl (by decide) (by omega)
theorem zer_row (w : World) : RowV (w.alloc (.cells (madeCells #[.int .u8 0] 450) /-t-/5)) (.slice (some ⟨w.heap.size, 0, none⟩) 450 450) 450 (Cod.litZ zerL) := by
  refine rowIs_rowV ((World.rowIs_made w (.int .u8 0) 450 /-t-/5).congr fun i hi => ?_) (by omega) (fun c hc => ?_)
  · have : Cod.litZ zerL i = 0 := by unfold Cod.litZ zerL; rw [List.getD_eq_getElem?_getD, List.getElem?_replicate]; split <;> rfl
    rw [this]; rfl
  · have : Cod.litZ zerL c = 0 := by unfold Cod.litZ zerL; rw [List.getD_eq_getElem?_getD, List.getElem?_replicate]; split <;> rfl
    rw [this]; omega
theorem two_rows {M : List Bv} {a b : List Nat} (h : M.map Bv.B = [a, b]) : ∃ m0 m1, M = [m0, m1] ∧ m0.B = a ∧ m1.B = b := by
  cases M with
  | nil => cases h
  | cons m0 M =>
    cases M with
    | nil => cases h
    | cons m1 M =>
      cases M with
      | nil => injection h with h1 h2; injection h2 with h2 _; exact ⟨m0, m1, rfl, h1, h2⟩
      | cons m2 M => cases h
theorem fol_ok {m : Mi} {start : Nat} {chain : Int} {w w' : World} {e : Ending} {P : List Pn} {tl : Tl} {ep : Int} (h : FolPost m start chain w e w') (h1 : allI m start chain = (P, false)) (h2 : tailR (sumM m) P (start : Int) chain = tl) (h3 : epR P = ep) : ∃ V, e = .returned (.tuple #[V, .int .i64 0]) ∧ TailV w w' tl ep V ∧ Ch (fun _ => False) w w' := by
  obtain ⟨V, rfl, hV, hc⟩ := h
  rw [h1] at hV ⊢
  refine ⟨V, rfl, ?_, hc⟩
  have hV' : TailV w w' (tailR (sumM m) P (start : Int) chain) (epR P) V := hV
  rw [h2, h3] at hV'
  exact hV'
theorem aw1_def (B : Nat) : appS (awX B) abcL (bkD 7 26) = aw1 B := rfl
theorem aw2_def (B : Nat) : appS (aw1 B).x zerL (aw1 B).d = aw2 B := rfl
set_option maxHeartbeats 12800000 in
set_option maxRecDepth 100000 in
theorem rawake_any (w : World) : Calls Tryz.prog 11 #[] w (Ans (.bool true) w) := by
  have hG8 : (#[.int .i64 8, .int .i64 1, .int .i64 2, .int .i64 1] : Array Value) = geC awG.ge := rfl
  obtain ⟨w1, H, hR⟩ := geR w awG.ge
  have hal := hR.al
  have hsz := hR.sz
  have HR := Lib.hid hR
  have HBK := Lib.hid ((lawBlank_any 7 awG.ge w1 ⟨by omega, by omega⟩))
  have HG8 := Lib.hid hG8
  clear hR hG8
  go_enter Tryz.func11, Tryz.ntmps11
  go_wp2_with fail
  rw [HG8.out, hal]
  refine HBK.out.mono ?_
  rintro e w2 hb
  obtain ⟨B, rfl, hO⟩ := hb.2 awG rfl rfl
  have hO : One w1 B (bkD 7 26) w2 := hO
  have HO := Lib.hid hO
  have HX : Hid (∀ wx, Ch (fun _ => False) w1 wx → GeX wx H awG.ge) := Lib.hid fun wx k => HR.out.x.gr k
  have x0 : w2.cell? ⟨H, 0, none⟩ = some (.int .i64 8) := (HX.out w2 hO.ch).x0
  have x1 : w2.cell? ⟨H, 1, none⟩ = some (.int .i64 1) := (HX.out w2 hO.ch).x1
  have x2 : w2.cell? ⟨H, 2, none⟩ = some (.int .i64 2) := (HX.out w2 hO.ch).x2
  have x3 : w2.cell? ⟨H, 3, none⟩ = some (.int .i64 1) := (HX.out w2 hO.ch).x3
  clear hal hsz hO hb HBK
  go_wp2_with fail
  rw [HG8.out]
  refine (rgNew_any B 7 awG.ge 1 0 0 0 w2).mono ?_
  rintro e w3 hn
  obtain ⟨R, rfl, hR1, hR2, hR3⟩ : ∃ R, e = .returned (.tuple #[.pointer (some ⟨R, 0, none⟩), .int .i64 0]) ∧ w2.heap.size ≤ R ∧ RgIs w3 R (awX B) ∧ Ch (fun _ => False) w2 w3 := hn
  have h3 := RgW.start HO.out hR3 hR2 hR1 rfl
  obtain ⟨w4, hw4⟩ : ∃ w4, w4 = w3.alloc (.cells #[.int .u8 97, .int .u8 98, .int .u8 99] /-t-/5 (3, 4)) := ⟨_, rfl⟩
  obtain ⟨b4, hb4⟩ : ∃ b4, b4 = w3.heap.size := ⟨_, rfl⟩
  have hc4 : Ch (fun _ => False) w3 w4 := by rw [hw4]; exact (Ch.refl _ w3).allocO _
  have hz4 : w4.heap.size = w3.heap.size + 1 := by rw [hw4]; exact Array.size_push _
  have h4 : RgW w1 (fun i => i = b4) B R (bkD 7 26) (awX B) w4 := h3.own hc4 (fun _ f => f.elim) (fun i e => Or.inr (by rw [e, hb4]; omega))
  have r4 : RowV w4 (.slice (some ⟨b4, 0, none⟩) 3 3) 3 (Cod.litZ abcL) := by rw [hw4, hb4]; exact abc_row w3
  have HA4 := Lib.hid (h4.append (Bt := abcL) (t := 26) rfl (awX_ok B) r4 abc_b (fun b o n C e q => q.2 (by injection e with e; injection e with e; injection e with e; exact e.symm)) (aw_lims B).1.1 (aw_lims B).1.2 (by omega))
  have HW4 := Lib.hid hw4
  have HB4 := Lib.hid hb4
  have kc := fun (w : World) (C : Array Value) (n c : Nat) => Lib.run_convert_bytes_const (P := Tryz.prog) w /-t-/24 /-t-/5 C n c Tryz.underlying24 Tryz.underlying5
  clear hR1 hR2 hR3 h3 hw4 hb4 hc4 hz4 h4 r4 x0 x1 x2 x3
  go_wp2_with fail
  rw [← HW4.out, ← HB4.out]
  refine HA4.out.mono ?_
  rintro e w5 ⟨rfl, h5, _⟩
  obtain ⟨D, T, hAW⟩ := aw_all B
  rw [aw1_def] at h5 ⊢
  rw [hAW.e1]
  have HAW := Lib.hid hAW
  have hmk : (Instr.makeSlice /-t-/24 (.int .i64 450) (.int .i64 450)).run Tryz.prog w5 = .ok (.slice (some ⟨w5.heap.size, 0, none⟩) 450 450) (w5.alloc (.cells (madeCells #[.int .u8 0] 450) /-t-/5)) := by
    obtain ⟨i0, hi, hz0, hz1, hz2⟩ := info_parts Tryz.info5
    have := run_make (P := Tryz.prog) w5 /-t-/24 /-t-/5 i0 (.int .u8 0) Tryz.underlying24 hi hz0 .i64 .i64 450 450 (by omega) (by omega) (by rw [hz2]; omega) (by omega)
    rw [hz1] at this
    exact this
  obtain ⟨w6, hw6⟩ : ∃ w6, w6 = w5.alloc (.cells (madeCells #[.int .u8 0] 450) /-t-/5) := ⟨_, rfl⟩
  obtain ⟨b6, hb6⟩ : ∃ b6, b6 = w5.heap.size := ⟨_, rfl⟩
  have hc6 : Ch (fun _ => False) w5 w6 := by rw [hw6]; exact (Ch.refl _ w5).alloc _ _
  have hz6 : w6.heap.size = w5.heap.size + 1 := by rw [hw6]; exact Array.size_push _
  have h6 : RgW w1 (fun i => i = b6) B R (aw1 B).d (aw1 B).x w6 := h5.own hc6 (fun _ f => f.elim) (fun i e => Or.inr (by rw [e, hb6]; omega))
  have r6 : RowV w6 (.slice (some ⟨b6, 0, none⟩) 450 450) 450 (Cod.litZ zerL) := by rw [hw6, hb6]; exact zer_row w5
  have HA6 := Lib.hid (h6.append (Bt := zerL) (t := 1690) zer_len.symm hAW.ok1 r6 zer_b (fun b o n C e q => q.2 (by injection e with e; injection e with e; injection e with e; exact e.symm)) (aw_lims B).2.1.1 (aw_lims B).2.1.2 (by omega))
  rw [← hw6, ← hb6] at hmk
  clear hAW h5 hw6 hb6 hc6 hz6 h6 r6 HA4 HW4 HB4
  go_wp2_with fail
  refine HA6.out.mono ?_
  rintro e w7 ⟨rfl, h7, _⟩
  rw [aw2_def] at h7 ⊢
  rw [HAW.out.e2]
  have hl7 := (aw_lims B).2.2.1
  obtain ⟨d7, hd7⟩ : ∃ d7, d7 = (aw2 B).d := ⟨_, rfl⟩
  have h3d : aw3 B = faultD d7 (flR 6) := by rw [hd7]; rfl
  rw [← hd7] at h7 hl7
  have hf6 : FaOk (flR 6) := flR_ok (by unfold I64; omega)
  have HF7 := Lib.hid (h7.call (d' := faultD d7 (flR 6)) (r := .int .i64 (faultE d7 (flR 6))) (F := 28) (args := #[.pointer (some ⟨B, 0, none⟩), .agg (faC (flR 6))]) fun p hp h => by
    subst hp
    exact fault_any _ p d7 (flR 6) 3354 w7 h hf6 hl7.1 hl7.2 (by omega))
  have HBT := Lib.hid (built_flR 6 w7)
  clear h7 hmk HA6 hl7 hf6
  go_wp2_with (first
    | ((with_reducible refine wpList_isOp (.build 48 #[(0, .const (.int .i64 3)), (1, .const (.int .i64 6))]) rfl ?_); refine wpList_building _ rfl 48 #[(0, .const (.int .i64 3)), (1, .const (.int .i64 6))] rfl _ (by exact HBT.out) ?_)
    | fail)
  refine HF7.out.mono ?_
  rintro e w8 ⟨rfl, h8, _⟩
  obtain ⟨fe, hfe⟩ : ∃ fe, fe = faultE d7 (flR 6) := ⟨_, rfl⟩
  rw [← hfe]
  rw [← h3d] at h8
  have HL8 := Lib.hid (h8.load awG_ok (t := 3355) (aw_lims B).2.2.2 (by omega))
  have x0 : w8.cell? ⟨H, 0, none⟩ = some (.int .i64 8) := (HX.out w8 h8.ch).x0
  have x1 : w8.cell? ⟨H, 1, none⟩ = some (.int .i64 1) := (HX.out w8 h8.ch).x1
  have x2 : w8.cell? ⟨H, 2, none⟩ = some (.int .i64 2) := (HX.out w8 h8.ch).x2
  have x3 : w8.cell? ⟨H, 3, none⟩ = some (.int .i64 1) := (HX.out w8 h8.ch).x3
  clear h8 hfe HF7 HBT hd7 h3d
  go_wp2_with fail
  rw [HG8.out]
  refine HL8.out.mono ?_
  rintro e w9 ⟨B0, B1, rfl, ha0, ha1, h9, _⟩
  have hmi : MiIs w9 (miOf 7 awG (aw3 B) (some ⟨B0, 0, none⟩) (some ⟨B1, 0, none⟩) awG.W awG.W) := mi_is awG_ok ⟨by omega, by omega⟩ ha0 ha1
  have hlm := logM_of HAW.out.fine.qt awG_ok (by decide) (show 0 ≤ (7 : Int) ∧ (7 : Int) ≤ 4294967295 by omega) HAW.out.log (some ⟨B0, 0, none⟩) (some ⟨B1, 0, none⟩) awG.W awG.W
  obtain ⟨m, hm⟩ : ∃ m, m = miOf 7 awG (aw3 B) (some ⟨B0, 0, none⟩) (some ⟨B1, 0, none⟩) awG.W awG.W := ⟨_, rfl⟩
  rw [← hm] at hmi hlm
  have hmA0 : m.A 0 = some ⟨B0, 0, none⟩ := by rw [hm]; rfl
  have hmA1 : m.A 1 = some ⟨B1, 0, none⟩ := by rw [hm]; rfl
  have hmC0 : m.C 0 = awG.W := by rw [hm]; rfl
  have hmC1 : m.C 1 = awG.W := by rw [hm]; rfl
  have hmv : m.vol = 7 := by rw [hm]; rfl
  have hmg : m.g = awG := by rw [hm]; rfl
  have hF9 := rfollow_yes m 0 0 w9 hmi (by omega) ⟨by omega, by omega⟩
  rw [hmA0, hmA1, hmC0, hmC1, hmv, hmg] at hF9
  have HF9 := Lib.hid hF9
  have HT9 := Lib.hid (HAW.out.told m hlm hmv hmg)
  clear hm hmA0 hmA1 hmC0 hmC1 hmv hmg hF9
  have H9 := Lib.hid h9
  have y0 : w9.cell? ⟨H, 0, none⟩ = some (.int .i64 8) := (HX.out w9 h9.ch).x0
  have y1 : w9.cell? ⟨H, 1, none⟩ = some (.int .i64 1) := (HX.out w9 h9.ch).x1
  have y2 : w9.cell? ⟨H, 2, none⟩ = some (.int .i64 2) := (HX.out w9 h9.ch).x2
  have y3 : w9.cell? ⟨H, 3, none⟩ = some (.int .i64 1) := (HX.out w9 h9.ch).x3
  clear ha0 ha1 h9 hmi hlm x0 x1 x2 x3 HL8
  go_wp2_with fail
  rw [HG8.out]
  refine HF9.out.mono ?_
  rintro e w10 hfol
  obtain ⟨V, rfl, hV, hc10⟩ := fol_ok hfol HT9.out.1 HT9.out.2 HAW.out.ep
  obtain ⟨A2, C2, M, rfl, hM, hRO⟩ := hV
  obtain ⟨m0, m1, rfl, hm0, hm1⟩ := two_rows hM
  have hrd := hRO.read (by show 2 ≤ _; omega)
  obtain ⟨b, o, rfl, hcs⟩ := hrd.at' (by show 0 < 2; omega)
  obtain ⟨hv0, _⟩ := hrd.rows m0 List.mem_cons_self
  obtain ⟨hv1, _⟩ := hrd.rows m1 (List.mem_cons_of_mem _ List.mem_cons_self)
  have q0 := hcs 0 m0 rfl 0 m0.V rfl
  have q1 := hcs 1 m1 rfl 0 m1.V rfl
  rw [show elB.B m0 = abcL from hm0] at hv0
  rw [show elB.B m1 = zerL from hm1] at hv1
  obtain ⟨A3, C3, e3, _⟩ := id hv0
  obtain ⟨A4, C4, e4, _⟩ := id hv1
  rw [show elB.V m0 = m0.V from rfl] at e3 hv0
  rw [show elB.V m1 = m1.V from rfl] at e4
  rw [e3] at q0 hv0
  rw [e4, zer_len] at q1
  have q0 : w10.cell? ⟨b, o, none⟩ = some (.slice A3 3 C3) := q0
  have q1 : w10.cell? ⟨b, o + 1, none⟩ = some (.slice A4 450 C4) := q1
  obtain ⟨cc, hcc⟩ : ∃ cc, cc = (aw2 B).x.chain := ⟨_, rfl⟩
  obtain ⟨v, hv⟩ : ∃ v, v = Value.slice (some ⟨b, o, none⟩) 2 C2 := ⟨_, rfl⟩
  obtain ⟨wz, wx, G, hVT⟩ := varTl ⟨[abcL, zerL], 4, cc⟩ 1 (v := v) ⟨_, _, _, hv⟩ w10
  have t0 : wx.cell? ⟨G, 0, none⟩ = some v := blk_cell hVT.cx
  have t1 : wx.cell? ⟨G, 1, none⟩ = some (.int .i64 4) := blk_cell hVT.cx
  have t2 : wx.cell? ⟨G, 2, none⟩ = some (.int .i64 cc) := blk_cell hVT.cx
  have t3 : wx.cell? ⟨G, 3, none⟩ = some (.int .i64 1) := blk_cell hVT.cx
  have q0 := hVT.ch.cell q0 (fun f => f)
  have q1 := hVT.ch.cell q1 (fun f => f)
  have hrw := hv0.gr hVT.ch
  have hcv : ∀ q, (convert /-t-/24 /-t-/9 (.slice A3 3 C3)).run Tryz.prog (wx.drewN q) = .ok (.string { data := #[97, 98, 99] }) (wx.drewN q) := fun q => row_text (hrw.drewN q)
  have hrg := (H9.out.gr hc10).gr hVT.ch
  have HNX := Lib.hid (fun n => rnext_same R (aw2 B).x (wx.drewN n) (hrg.rg.gr ((Ch.refl _ wx).drewN n)))
  have HCH := Lib.hid (fun n => rchain_same R (aw2 B).x (wx.drewN n) (hrg.rg.gr ((Ch.refl _ wx).drewN n)))
  rw [HAW.out.next] at HNX
  rw [← hcc] at HCH ⊢
  have HCF := Lib.hid (HR.out.ch.trans hrg.ch)
  have HVT := Lib.hid hVT
  rw [show (Value.slice (some ⟨b, o, none⟩) [m0, m1].length C2) = v from hv.symm]
  rw [hv] at t0 ⊢
  rw [hv] at HVT
  clear hfol hM hRO hm0 hm1 hrd hcs hv0 hv1 e3 e4 hcc hVT hrw hrg y0 y1 y2 y3 HF9 HT9 H9 HAW hc10 hv
  go_wp2_with (first
    | ((with_reducible refine wpList_isOp (.alloc 40) rfl ?_); refine wpList_making _ wz rfl 40 rfl (tlC tl0 0 (.slice none 0 0)) G (zero_tl _) (by exact HVT.out.sz) (by exact HVT.out.al) ?_)
    | ((with_reducible refine wpList_isOp (.store 40 (.tmp 9) (.tmp 41)) rfl ?_); refine wpList_storing _ wx rfl 40 (.tmp 9) (.tmp 41) rfl (.agg (tlC ⟨[abcL, zerL], 4, cc⟩ 1 (.slice (some ⟨b, o, none⟩) 2 C2))) ⟨G, 0, none⟩ rfl rfl (by exact HVT.out.st) ?_)
    | fail)
  go_quiet (first
    | (go_at_call 30; exact quR (HNX.out _))
    | (go_at_call 31; exact quR (HCH.out _)))
  go_wp2
  go_ret
  exact ⟨rfl, HCF.out.drewN _⟩
end Go.Proofs.YteleknojohnlbaaGreat
namespace Go.Proofs.YteleknojohnlbaaGreat
open Go.RowKit
set_option linter.unusedVariables false
set_option maxRecDepth 100000
set_option linter.unusedSimpArgs false
end Go.Proofs.YteleknojohnlbaaGreat
namespace Go.Proofs.YteleknojohnlbaaGreat
open Go.RowKit
set_option linter.unusedVariables false
set_option maxRecDepth 100000
set_option linter.unusedSimpArgs false
theorem fewTo_all {N : Nat → Nat} {b : Nat} : ∀ {n : Nat}, fewTo N b n = true → ∀ c, c < n → N c ≤ b
  | n + 1, h, c, hc => by
    have h' : (fewTo N b n && decide (N n ≤ b)) = true := h
    obtain ⟨h1, h2⟩ := Bool.and_eq_true_iff.1 h'
    by_cases q : c = n
    · subst q; exact of_decide_eq_true h2
    · exact fewTo_all h1 c (by omega)
end Go.Proofs.YteleknojohnlbaaGreat
