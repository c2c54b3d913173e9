/-
  A device and a ring on it, behind calls in a row. law11.appended, walked: what is appended, as far as it has no error.
-/
import Derived.Test.YteleknojohnlbaaGreatMc38
import Derived.Test.YteleknojohnlbaaGreatMc39
namespace Go.Proofs.YteleknojohnlbaaGreat
open Go.RowKit
set_option linter.unusedVariables false
set_option maxRecDepth 100000
set_option linter.unusedSimpArgs false
theorem appS_keep (x : Rg) (B : List Nat) (d : Dev) : (appS x B d).x.d = x.d := by
  unfold appS
  split
  · refine snocI (P := fun l => (apL (cntR B.length) B ⟨d, x, 0⟩ l).x.d = x.d) rfl ?_ _
    intro l i ih
    rw [apL_snoc]
    unfold apStep
    split
    · show (nxR _ _ _).d = x.d
      unfold nxR
      split <;> exact ih
    · exact ih
  · rfl
theorem appS_lim {x : Rg} {B : List Nat} {d : Dev} {t : Nat} (hl : Lim d t) (hm : LimM d t) : Lim (appS x B d).d (t + 1664) ∧ LimM (appS x B d).d (t + 1664) := by
  unfold appS
  split
  · rename_i he
    have hc := cntN_eq B.length
    have h64 : cntN B.length ≤ 64 := by
      unfold apE0 at he
      by_cases q : 64 < cntR B.length
      · rw [if_pos q] at he; cases he
      · omega
    have := ap_lim (o := cntR B.length) (B := B) (s := ⟨d, x, 0⟩) hl hm (List.range (cntN B.length))
    rw [List.length_range] at this
    exact ⟨this.1.mono (by omega), this.2.mono (by omega)⟩
  · exact ⟨hl.mono (by omega), hm.mono (by omega)⟩
structure RgW (w0 : World) (X : Nat → Prop) (B R : Nat) (d : Dev) (x : Rg) (w : World) : Prop where
  ch : Ch (fun _ => False) w0 w
  dev : ∃ p : Ph, p.B = B ∧ DevIs w0.heap.size w p d ∧ ∀ i, X i ∨ i = R → ¬ Foot p d i
  rg : RgIs w R x
  xd : x.d = B
  lo : w0.heap.size ≤ R
  lt : ∀ i, X i → i < w.heap.size
  ne : ∀ i, X i → i ≠ R
section
variable {w0 w w1 : World} {X : Nat → Prop} {B R : Nat} {d d' : Dev} {x : Rg}
theorem RgW.start (h : One w0 B d w) (hc : Ch (fun _ => False) w w1) (hr : RgIs w1 R x) (hR : w.heap.size ≤ R) (hx : x.d = B) : RgW w0 (fun _ => False) B R d x w1 := by
  obtain ⟨h1, p, h2, h3⟩ := h
  refine ⟨h1.trans hc, ⟨p, h2, h3.gr hc, fun i hi hf => ?_⟩, hr, hx, Nat.le_trans h1.size hR, fun _ f => f.elim, fun _ f => f.elim⟩
  have := (h3.foot hf).2
  rcases hi with f | rfl
  · exact f
  · omega
theorem RgW.gr (h : RgW w0 X B R d x w) (hc : Ch (fun _ => False) w w1) : RgW w0 X B R d x w1 := by
  obtain ⟨p, h2, h3, h4⟩ := h.dev
  exact ⟨h.ch.trans hc, ⟨p, h2, h3.gr hc, h4⟩, h.rg.gr hc, h.xd, h.lo, fun i hi => Nat.lt_of_lt_of_le (h.lt i hi) hc.size, h.ne⟩
theorem RgW.own (h : RgW w0 X B R d x w) {S X' : Nat → Prop} (hc : Ch S w w1) (hS : ∀ i, S i → X i ∧ w0.heap.size ≤ i) (hX : ∀ i, X' i → X i ∨ (w.heap.size ≤ i ∧ i < w1.heap.size)) : RgW w0 X' B R d x w1 := by
  obtain ⟨p, h2, h3, h4⟩ := h.dev
  have hR : R < w.heap.size := blk_lt (o := .cells (rgC x) 109 (0, 0)) h.rg
  refine ⟨h.ch.new (hc.mono fun i _ hi => (hS i hi).2), ⟨p, h2, h3.ch hc (fun i hi hs => h4 i (Or.inl (hS i hs).1) hi), fun i hi hf => ?_⟩, h.rg.off hc (fun hs => h.ne R (hS R hs).1 rfl), h.xd, h.lo, fun i hi => ?_, fun i hi e => ?_⟩
  · rcases hi with hi | hi
    · rcases hX i hi with q | q
      · exact h4 i (Or.inl q) hf
      · have := (h3.foot hf).2; omega
    · exact h4 i (Or.inr hi) hf
  · rcases hX i hi with q | q
    · exact Nat.lt_of_lt_of_le (h.lt i q) hc.size
    · exact q.2
  · rcases hX i hi with q | q
    · exact h.ne i q e
    · omega
theorem RgW.call {r : Value} {F : FuncId} {args : Array Value} (h : RgW w0 X B R d x w) (g : ∀ p : Ph, p.B = B → DevIs w0.heap.size w p d → Calls Tryz.prog F args w (DPost w0.heap.size p d d' r w)) :
    Calls Tryz.prog F args w fun e w' => e = .returned r ∧ RgW w0 X B R d' x w' ∧ Ch (fun i => w0.heap.size ≤ i ∧ ¬ X i) w w' := by
  obtain ⟨p, h2, h3, h4⟩ := h.dev
  have hR : R < w.heap.size := blk_lt (o := .cells (rgC x) 109 (0, 0)) h.rg
  refine (g p h2 h3).mono ?_
  rintro e w' ⟨rfl, p', a1, a2, a3, a4⟩
  refine ⟨rfl, ⟨h.ch.new (a4.mono fun i _ hi => (h3.foot hi).1), ⟨p', a1.trans h2, a2, fun i hi hf => ?_⟩, h.rg.off a4 (fun hf => h4 R (Or.inr rfl) hf), h.xd, h.lo, fun i hi => Nat.lt_of_lt_of_le (h.lt i hi) a4.size, h.ne⟩, a4.mono fun i _ hi => ⟨(h3.foot hi).1, fun q => h4 i (Or.inl q) hi⟩⟩
  rcases a3 i hf with q | q
  · exact h4 i hi q
  · rcases hi with hi | hi
    · have := h.lt i hi; omega
    · omega
theorem RgW.append (h : RgW w0 X B R d x w) {Bt : List Nat} {A : Option Addr} {n C t : Nat} (hn : n = Bt.length) (hx : RgOk x) (hB : RowV w (.slice A n C) n (Cod.litZ Bt)) (hb : ∀ c ∈ Bt, c < 256) (hoff : Off (fun i => w0.heap.size ≤ i ∧ ¬ X i) (.slice A n C)) (hl : Lim d t) (hm : LimM d t) (ht : t ≤ 890000) :
    Calls Tryz.prog 35 #[.pointer (some ⟨R, 0, none⟩), .slice A n C] w fun e w' => e = .returned (.int .i64 (appS x Bt d).e) ∧ RgW w0 X B R (appS x Bt d).d (appS x Bt d).x w' ∧ Ch (fun i => w0.heap.size ≤ i ∧ ¬ X i) w w' := by
  obtain ⟨p, h2, h3, h4⟩ := h.dev
  subst hn
  have hR : R < w.heap.size := blk_lt (o := .cells (rgC x) 109 (0, 0)) h.rg
  have hS : ∀ i, Foot p d i ∨ i = R → w0.heap.size ≤ i ∧ ¬ X i := fun i hi => by
    rcases hi with hi | rfl
    · exact ⟨(h3.foot hi).1, fun q => h4 i (Or.inl q) hi⟩
    · exact ⟨h.lo, fun q => h.ne _ q rfl⟩
  refine (rappend_any w0.heap.size p d R x Bt A C t w h3 h.rg (h.xd.trans h2.symm) (h4 R (Or.inr rfl)) hx hB hb (hoff.mono hS) hl hm (by omega)).mono ?_
  rintro e w' ⟨rfl, a1, ⟨p', b1, b2, b3⟩, a3⟩
  refine ⟨rfl, ⟨h.ch.new (a3.mono fun i _ hi => (hS i hi).1), ⟨p', b1.trans h2, b2, fun i hi hf => ?_⟩, a1, (appS_keep x Bt d).trans h.xd, h.lo, fun i hi => Nat.lt_of_lt_of_le (h.lt i hi) a3.size, h.ne⟩, a3.mono fun i _ hi => hS i hi⟩
  rcases b3 i hf with q | q
  · exact h4 i hi q
  · rcases hi with hi | hi
    · have := h.lt i hi; omega
    · omega
theorem RgW.load (h : RgW w0 X B R d x w) {g : Gn} (hg : g.Ok) {t : Nat} (hl : Lim d t) (ht : t ≤ 890000) : Calls Tryz.prog 29 #[.pointer (some ⟨B, 0, none⟩), .agg (geC g.ge)] w fun e w' =>
    ∃ B0 B1, e = .returned (.tuple #[.slice (some ⟨B0, 0, none⟩) g.W g.W, .slice (some ⟨B1, 0, none⟩) g.W g.W]) ∧ BsV w' (some ⟨B0, 0, none⟩) g.W g.W (ldN g.ge 0 d) (ldZ g.ge 0 d) ∧ BsV w' (some ⟨B1, 0, none⟩) g.W g.W (ldN g.ge 1 (ldD g.ge 0 d g.W)) (ldZ g.ge 1 (ldD g.ge 0 d g.W)) ∧ RgW w0 X B R (ld2 g.ge d) x w' ∧ Ch (fun i => w0.heap.size ≤ i ∧ ¬ X i) w w' := by
  obtain ⟨p, h2, h3, h4⟩ := h.dev
  have hW : g.ge.wal.toNat = g.W := Int.toNat_natCast _
  have hw2 := hg.w2
  subst h2
  refine (rLoad_any w0.heap.size p g d w h3 hg (by have := hl.ops; omega) (by have := hl.W; omega)).mono ?_
  rintro e w' ⟨B0, B1, rfl, a1, a2, a3, a4⟩
  rw [hW] at a1 a2 ⊢
  have hn : (ld2 g.ge d).n = d.n := by
    unfold ld2
    rw [ldD_n, ldD_n]
  have hf : ∀ i, Foot p (ld2 g.ge d) i → Foot p d i := fun i hi => (foot_n hn).1 hi
  exact ⟨B0, B1, rfl, a1.read (by omega), a2.read (by omega), ⟨h.ch.new (a4.mono fun i _ hi => (h3.foot hi).1), ⟨p, rfl, a3, fun i hi q => h4 i hi (hf i q)⟩, h.rg.off a4 (h4 R (Or.inr rfl)), h.xd, h.lo, fun i hi => Nat.lt_of_lt_of_le (h.lt i hi) a4.size, h.ne⟩, a4.mono fun i _ hi => ⟨(h3.foot hi).1, fun q => h4 i (Or.inl q) hi⟩⟩
theorem mi_is {vol : Int} {g : Gn} {B0 B1 : Nat} (hg : g.Ok) (hv : 0 ≤ vol ∧ vol ≤ 4294967295) (h0 : BsV w (some ⟨B0, 0, none⟩) g.W g.W (ldN g.ge 0 d) (ldZ g.ge 0 d)) (h1 : BsV w (some ⟨B1, 0, none⟩) g.W g.W (ldN g.ge 1 (ldD g.ge 0 d g.W)) (ldZ g.ge 1 (ldD g.ge 0 d g.W))) : MiIs w (miOf vol g d (some ⟨B0, 0, none⟩) (some ⟨B1, 0, none⟩) g.W g.W) := ⟨hg, hv, h0, h1⟩
end
end Go.Proofs.YteleknojohnlbaaGreat
namespace Go.Proofs.YteleknojohnlbaaGreat
open Go.RowKit
set_option linter.unusedVariables false
set_option maxRecDepth 100000
set_option linter.unusedSimpArgs false
theorem ap_st {o : Int} {B : List Nat} {d : Dev} {x : Rg} (hB : ∀ c ∈ B, c < 256) (hx : RgOk x) : ∀ l, ∃ j, j ≤ l.length ∧ StOk x j (apL o B ⟨d, x, 0⟩ l).x := by
  refine snocI ⟨0, Nat.le_refl _, ⟨rfl, rfl, rfl, rfl, rfl, rfl, by show x.next = x.next + ((0 : Nat) : Int); omega, hx.ch⟩⟩ ?_
  rintro l i ⟨j, hj, a1, a2, a3, a4, a5, a6, a7, a8⟩
  rw [apL_snoc, List.length_append]
  simp only [List.length_cons, List.length_nil]
  unfold apStep
  split
  · show ∃ j, j ≤ l.length + 1 ∧ StOk x j (nxR _ _ _)
    unfold nxR
    split
    · refine ⟨j + 1, by omega, a1, a2, a3, a4, a5, a6, ?_, sumR_word (pcB_b hB i)⟩
      show (apL o B ⟨d, x, 0⟩ l).x.next + 1 = _
      rw [a7]; omega
    · exact ⟨j, by omega, a1, a2, a3, a4, a5, a6, a7, a8⟩
  · exact ⟨j, by omega, a1, a2, a3, a4, a5, a6, a7, a8⟩
theorem appS_ok {x : Rg} {B : List Nat} {d : Dev} (hB : ∀ c ∈ B, c < 256) (hx : RgOk x) : RgOk (appS x B d).x := by
  unfold appS
  split
  · rename_i he
    have hc := cntN_eq B.length
    have hn : x.next + cntR B.length ≤ 4294967295 := by
      unfold apE0 at he
      by_cases q : 64 < cntR B.length
      · rw [if_pos q] at he; cases he
      · rw [if_neg q] at he
        by_cases r : x.g.wal < x.next + cntR B.length - x.start ∨ 4294967295 < x.next + cntR B.length
        · rw [if_pos r] at he; cases he
        · exact Int.not_lt.1 fun h => r (Or.inr h)
    obtain ⟨j, hj, hs⟩ := ap_st (o := cntR B.length) (d := d) hB hx (List.range (cntN B.length))
    rw [List.length_range] at hj
    exact hs.ok hx (by omega)
  · exact hx
theorem ad_lim {s : AdS} {t : Nat} (hl : Lim s.d t) (hm : LimM s.d t) : ∀ L, Lim (adTo s L).d (t + 1664 * L.length) ∧ LimM (adTo s L).d (t + 1664 * L.length) := by
  refine snocI ⟨hl, hm⟩ ?_
  rintro L B ⟨h1, h2⟩
  rw [adTo_snoc, List.length_append]
  simp only [List.length_cons, List.length_nil]
  have h3 := appS_lim (x := (adTo s L).x) (B := B) h1 h2
  unfold adStep
  split
  · split
    · exact ⟨h3.1.mono (by omega), h3.2.mono (by omega)⟩
    · split <;> exact ⟨h3.1.mono (by omega), h3.2.mono (by omega)⟩
  · exact ⟨h1.mono (by omega), h2.mono (by omega)⟩
theorem ad_ok {s : AdS} (hx : RgOk s.x) : ∀ L : List (List Nat), (∀ B ∈ L, ∀ c ∈ B, c < 256) → RgOk (adTo s L).x := by
  refine snocI (fun _ => hx) ?_
  intro L B ih hL
  have h1 := ih fun B' hB' => hL B' (List.mem_append_left _ hB')
  rw [adTo_snoc]
  have h3 := appS_ok (d := (adTo s L).d) (hL B (List.mem_append_right _ (List.mem_singleton.2 rfl))) h1
  unfold adStep
  split
  · split
    · exact h3
    · split <;> exact h3
  · exact h1
theorem ad_stop {s : AdS} (h : s.ok = false) : ∀ L, adTo s L = s
  | [] => rfl
  | B :: L => by
    show adTo (adStep s B) L = s
    rw [show adStep s B = s by unfold adStep; rw [h]; rfl]
    exact ad_stop h L
theorem ad_cut {s : AdS} {L : List (List Nat)} {k : Nat} (h : (adTo s (L.take k)).ok = false) : adTo s L = adTo s (L.take k) := by
  have e : adTo s L = adTo (adTo s (L.take k)) (L.drop k) := by
    show L.foldl adStep s = (L.drop k).foldl adStep ((L.take k).foldl adStep s)
    rw [← List.foldl_append, List.take_append_drop]
  rw [e]
  exact ad_stop h _
structure OutW (w0 wr : World) (v : Value) (out : List (List Nat)) : Prop where
  own : ∃ vs : List Value, wr.ownsRow w0.heap.size /-t-/24 1 v out.length vs ∧ vs.length = out.length ∧ ∀ (i : Nat) (V : Value), vs[i]? = some V → ∃ bt, out[i]? = some bt ∧ SlV V ∧ RowV w0 V bt.length (Cod.litZ bt) ∧ ∀ c ∈ bt, c < 256
theorem OutW.start (w0 wr : World) : OutW w0 wr (.slice none 0 0) [] := ⟨[], World.ownsRow_nil wr w0.heap.size _ 1, rfl, fun i V h => by simp at h⟩
theorem OutW.len {w0 wr : World} {v : Value} {out : List (List Nat)} (h : OutW w0 wr v out) : ∃ A C, v = .slice A out.length C := by
  obtain ⟨vs, h1, _⟩ := h.own
  rcases h1.2 with ⟨rfl, h0⟩ | ⟨g, cap, cur, rfl, _⟩
  · exact ⟨none, 0, by rw [h0]⟩
  · exact ⟨_, _, rfl⟩
theorem OutW.ch {w0 wr w' : World} {S : Nat → Prop} {v : Value} {out : List (List Nat)} (h : OutW w0 wr v out) (k : Ch S wr w') (hS : ∀ i, v.ownBlock = some i → ¬ S i) : OutW w0 w' v out := by
  obtain ⟨vs, h1, h2⟩ := h.own
  exact ⟨vs, own_of h1 fun i hi => by
    obtain ⟨_, c, hc⟩ := own_at h1 hi
    exact k.block i (blk_lt hc) (hS i hi), h2⟩
theorem OutW.at {w0 wr : World} {v : Value} {out : List (List Nat)} (h : OutW w0 wr v out) {i : Nat} (hi : v.ownBlock = some i) : w0.heap.size ≤ i ∧ i < wr.heap.size := by
  obtain ⟨vs, h1, _⟩ := h.own
  obtain ⟨hb, c, hc⟩ := own_at h1 hi
  exact ⟨hb, blk_lt hc⟩
theorem OutW.app {w0 wr : World} {v u : Value} {out : List (List Nat)} {bt : List Nat} (h : OutW w0 wr v out) (hu : SlV u) (hr : RowV w0 u bt.length (Cod.litZ bt)) (hb : ∀ c ∈ bt, c < 256) (hk : out.length ≤ 1048576) (hw : w0.heap.size ≤ wr.heap.size) :
    ∃ g cap w2, (Builtin.append_ #[ /-t-/37, /-t-/37] /-t-/37 #[v, .slice (some ⟨wr.heap.size, 0, none⟩) 1 1]).run Tryz.prog (wr.alloc (.cells #[u] /-t-/24)) = .ok (.slice (some ⟨g, 0, none⟩) (out.length + 1) cap) w2 ∧ OutW w0 w2 (.slice (some ⟨g, 0, none⟩) (out.length + 1) cap) (out ++ [bt]) ∧ Ch (fun i => v.ownBlock = some i) wr w2 ∧ (v.ownBlock = some g ∨ (wr.heap.size ≤ g ∧ g < w2.heap.size)) := by
  obtain ⟨vs, h1, h2, h3⟩ := h.own
  obtain ⟨i0, hi, hz0, hz1, hz2⟩ := info_parts info_bs
  have k1 : Ch (fun _ => False) wr (wr.alloc (.cells #[u] /-t-/24)) := (Ch.refl _ wr).alloc _ _
  have hone : u.oneCell' = true := by obtain ⟨A, n, C, rfl⟩ := hu; rfl
  obtain ⟨g, cap, w2, a1, a2, a3, a4, a5⟩ := run_append_lies (P := Tryz.prog) (wr.alloc (.cells #[u] /-t-/24)) /-t-/37 /-t-/37 w0.heap.size /-t-/24 i0 (.slice none 0 0) 1 24 under_bs hi hz0 hz1 hz2 rfl (by decide) v out.length vs (ownsRow_ch h1 k1) ⟨wr.heap.size, 0, none⟩ 1 1 [u] rfl (fun j x hx => by
    rw [add_pl, blk_cell (heap_alloc_new wr _), Nat.zero_add]
    show ([u].toArray)[j]? = some x
    rw [List.getElem?_toArray]
    exact hx) (fun x hx => by rw [List.mem_singleton.1 hx]; exact hone) (by omega) (by unfold maxLen; omega) (by omega) (Nat.le_trans hw k1.size) _ rfl
  have k2 : Ch (fun i => v.ownBlock = some i) (wr.alloc (.cells #[u] /-t-/24)) w2 := (Ch.refl _ _).grown a3 (fun i hi => Or.inl hi)
  refine ⟨g, cap, w2, a1, ⟨vs ++ [u], by rw [List.length_append]; exact a2, by rw [List.length_append, List.length_append, h2]; rfl, fun i V hV => ?_⟩, (k1.mono fun _ _ f => f.elim).trans k2, a4.imp id fun e => ⟨by rw [e]; exact k1.size, a5⟩⟩
  by_cases q : i < vs.length
  · rw [List.getElem?_append_left q] at hV
    obtain ⟨b', e1, e2⟩ := h3 i V hV
    exact ⟨b', by rw [List.getElem?_append_left (by omega)]; exact e1, e2⟩
  · have hi' : i = vs.length := by
      have := (List.getElem?_eq_some_iff.1 hV).1
      rw [List.length_append] at this
      simp only [List.length_cons, List.length_nil] at this
      omega
    subst hi'
    rw [List.getElem?_append_right (Nat.le_refl _), Nat.sub_self] at hV
    injection hV with hV
    subst hV
    exact ⟨bt, by rw [h2, List.getElem?_append_right (Nat.le_refl _), Nat.sub_self]; rfl, hu, hr, hb⟩
structure AdW (w0 : World) (B R : Nat) (s : AdS) (v : Value) (wr : World) : Prop where
  rg : RgW w0 (fun i => v.ownBlock = some i) B R s.d s.x wr
  out : OutW w0 wr v s.out
def rowsL (N : Nat → Nat) (Z : Nat → Nat → Nat) (m : Nat) : List (List Nat) := (List.range m).map fun c => rowL (N c) (Z c)
theorem rowsL_len (N : Nat → Nat) (Z : Nat → Nat → Nat) (m : Nat) : (rowsL N Z m).length = m := by unfold rowsL; simp
theorem rowsL_take {N : Nat → Nat} {Z : Nat → Nat → Nat} {m k : Nat} (h : k < m) : (rowsL N Z m).take (k + 1) = (rowsL N Z m).take k ++ [rowL (N k) (Z k)] := by
  have : (rowsL N Z m)[k]? = some (rowL (N k) (Z k)) := by unfold rowsL; rw [List.getElem?_map, List.getElem?_range h]; rfl
  rw [List.take_add_one, this]
  rfl
theorem rowL_len' (n : Nat) (z : Nat → Nat) : (rowL n z).length = n := by unfold rowL; simp
theorem row_lit {w : World} {v : Value} {n : Nat} {z : Nat → Nat} (h : RowV w v n z) : RowV w v (rowL n z).length (Cod.litZ (rowL n z)) := by
  rw [rowL_len']
  exact h.congr fun c hc => (rowL_litz n z hc).symm
theorem rowsL_b {w : World} {A : Option Addr} {m C : Nat} {N : Nat → Nat} {Z : Nat → Nat → Nat} (h : BsV w A m C N Z) : ∀ B ∈ rowsL N Z m, ∀ c ∈ B, c < 256 := fun B hB => by
  unfold rowsL at hB
  obtain ⟨i, hi, rfl⟩ := List.mem_map.1 hB
  have hi := List.mem_range.1 hi
  obtain ⟨b, o, _, hc⟩ := h.at' (by omega)
  obtain ⟨A', C', _, hr⟩ := hc i hi
  exact rowL_b hr.bytes
def AdPost (w0 : World) (B R : Nat) (s : AdS) (e : Ending) (w' : World) : Prop := ∃ v, e = .returned (.tuple #[v, .bool s.ok]) ∧ AdW w0 B R s v w'
set_option maxHeartbeats 6400000 in
theorem appended_any (w0 : World) (B R : Nat) (d : Dev) (x : Rg) (A : Option Addr) (m C t : Nat) (N : Nat → Nat) (Z : Nat → Nat → Nat) (w : World) (h : RgW w0 (fun _ => False) B R d x w) (hx : RgOk x) (hL : BsV w0 A m C N Z) (hm : m ≤ 12) (hl : Lim d t) (hlm : LimM d t) (ht : t + 1664 * 12 ≤ 890000) :
    Calls Tryz.prog 27 #[.pointer (some ⟨R, 0, none⟩), .slice A m C] w (AdPost w0 B R (adTo ⟨d, x, [], true⟩ (rowsL N Z m))) := by
  obtain ⟨L, hLe⟩ : ∃ L, L = rowsL N Z m := ⟨_, rfl⟩
  have hLl : L.length = m := by rw [hLe]; exact rowsL_len N Z m
  have HLB : Hid (∀ B ∈ L, ∀ c ∈ B, c < 256) := Lib.hid (by rw [hLe]; exact rowsL_b hL)
  have HTK : Hid (∀ k, k < m → L.take (k + 1) = L.take k ++ [rowL (N k) (Z k)]) := Lib.hid fun k hk => by rw [hLe]; exact rowsL_take hk
  have HLM := Lib.hid (fun k => ad_lim (s := ⟨d, x, [], true⟩) hl hlm (L.take k))
  have HOK := Lib.hid (fun k => ad_ok (s := ⟨d, x, [], true⟩) hx (L.take k) (fun B hB => HLB.out B (List.mem_of_mem_take hB)))
  have HLL := Lib.hid hLl
  have HL := Lib.hid hL
  have HS0 : Hid (AdW w0 B R (adTo ⟨d, x, [], true⟩ (L.take 0)) (.slice none 0 0) w) := Lib.hid ⟨h.own (Ch.refl (fun _ => False) _) (fun _ f => f.elim) (fun i e => by cases e), OutW.start w0 w⟩
  have HM := Lib.hid hm
  have HT := Lib.hid ht
  rw [← hLe]
  clear hLe hLl h hx hL hm hl hlm ht
  go_enter Tryz.func27, Tryz.ntmps27
  go_wp2
  go_loopw [6, 7, 8, 9, 10, 11, 12, 13, 14, 15, 16, 17, 18, 19, 20, 21, 22, 23, 24, 25, 26, 27, 28, 29, 30, 31, 32, 33, 34, 35, 36] (fun v i _ _ _ _ _ _ _ _ _ _ _ _ _ _ _ _ _ _ _ _ _ _ _ _ _ _ _ _ _ wr => ∃ k : Nat, k ≤ m ∧ i = .int .i64 k ∧ Hid (AdW w0 B R (adTo ⟨d, x, [], true⟩ (L.take k)) v wr) ∧ Hid ((adTo ⟨d, x, [], true⟩ (L.take k)).ok = true ∧ (adTo ⟨d, x, [], true⟩ (L.take k)).out.length ≤ k)) (fun _ i _ _ _ _ _ _ _ _ _ _ _ _ _ _ _ _ _ _ _ _ _ _ _ _ _ _ _ _ _ _ => m - (intOf i).toNat)
  case atStart => exact ⟨0, Nat.zero_le _, rfl, HS0, Lib.hid ⟨rfl, Nat.le_refl _⟩⟩
  case round =>
    obtain ⟨k, hk, rfl, HK, HOO⟩ := hrel
    clear HS0
    obtain ⟨Av, Cv, rfl⟩ := HK.out.out.len
    by_cases hlt : k < m
    · have i1 : (0 : Int) ≤ (k : Int) := Int.natCast_nonneg _
      have i2 : (k : Int) < (m : Int) := by omega
      obtain ⟨b, o, rfl, hcs⟩ := HL.out.at' (by omega)
      obtain ⟨A', C', hc0, hr0⟩ := hcs k hlt
      have c1 := HK.out.rg.ch.cell hc0 (fun f => f)
      have HLT := Lib.hid hlt
      have hadd := adTo_snoc ⟨d, x, [], true⟩ (L.take k) (rowL (N k) (Z k))
      rw [← HTK.out k hlt] at hadd
      have hlim := HLM.out k
      have hlen : (L.take k).length = k := by rw [List.length_take, HLL.out]; omega
      rw [hlen] at hlim
      have hokx := HOK.out k
      have hcut := ad_cut (s := ⟨d, x, [], true⟩) (L := L) (k := k + 1)
      have HNO := Lib.hid (HOO.out)
      obtain ⟨s, hs⟩ : ∃ s, s = adTo ⟨d, x, [], true⟩ (L.take k) := ⟨_, rfl⟩
      rw [← hs] at hadd hlim hokx HK HNO ⊢
      obtain ⟨bt, hbt⟩ : ∃ bt, bt = rowL (N k) (Z k) := ⟨_, rfl⟩
      have hbl : N k = bt.length := by rw [hbt, rowL_len']
      have hlit := row_lit hr0
      have hbb := rowL_b hr0.bytes
      rw [← hbt] at hadd hlit hbb
      have hlow := hr0.low
      rw [hbl] at hr0 hlow c1 hc0
      have HC0 := Lib.hid hc0
      have HA := Lib.hid (HK.out.rg.append (Bt := bt) (t := t + 1664 * k) rfl hokx (by rw [hbl] at hlit; exact hlit.gr HK.out.rg.ch) hbb (hlow.mono fun i q => q.1) hlim.1 hlim.2 (by have := HT.out; have := HM.out; omega))
      rw [hbl] at hlit
      have HADD := Lib.hid hadd
      have HCUT := Lib.hid hcut
      have HLIT := Lib.hid hlit
      have HBB := Lib.hid hbb
      clear hcs hc0 hr0 hadd hlim hlen hokx hcut hs hbt hbl hlit hbb hlow hlt HOO
      go_wp2_with fail
      refine HA.out.mono ?_
      rintro e w2 ⟨rfl, h2, hc2⟩
      have HO2 : Hid (OutW w0 w2 (.slice Av s.out.length Cv) s.out) := Lib.hid (HK.out.out.ch hc2 fun i hi q => q.2 hi)
      have HR2 := Lib.hid h2
      obtain ⟨Ew, hEw⟩ : ∃ Ew, Ew = (appS s.x bt s.d).e := ⟨_, rfl⟩
      rw [← hEw]
      have HEW := Lib.hid hEw
      clear hc2 h2 HA hEw
      by_cases h4 : Ew = 4
      · subst h4
        have HN2 : Hid (AdW w0 B R (adTo ⟨d, x, [], true⟩ (L.take (k + 1))) (.slice Av s.out.length Cv) w2 ∧ ((adTo ⟨d, x, [], true⟩ (L.take (k + 1))).ok = true ∧ (adTo ⟨d, x, [], true⟩ (L.take (k + 1))).out.length ≤ k + 1)) := Lib.hid (by
          rw [HADD.out]
          unfold adStep
          rw [if_pos HNO.out.1, if_pos (by rw [← HEW.out]; exact Or.inl rfl)]
          exact ⟨⟨HR2.out, HO2.out⟩, rfl, Nat.le_succ_of_le HNO.out.2⟩)
        have hlt2 := HLT.out
        have hm12 := HM.out
        go_wp2
        go_roundw
        case rel => exact ⟨k + 1, HLT.out, by go_num, Lib.hid HN2.out.1, Lib.hid HN2.out.2⟩
        case measure => have := HLT.out; simp [intOf]; omega
      by_cases h2 : Ew = 2
      · subst h2
        have HN2 : Hid (AdW w0 B R (adTo ⟨d, x, [], true⟩ (L.take (k + 1))) (.slice Av s.out.length Cv) w2 ∧ ((adTo ⟨d, x, [], true⟩ (L.take (k + 1))).ok = true ∧ (adTo ⟨d, x, [], true⟩ (L.take (k + 1))).out.length ≤ k + 1)) := Lib.hid (by
          rw [HADD.out]
          unfold adStep
          rw [if_pos HNO.out.1, if_pos (by rw [← HEW.out]; exact Or.inr rfl)]
          exact ⟨⟨HR2.out, HO2.out⟩, rfl, Nat.le_succ_of_le HNO.out.2⟩)
        have hlt2 := HLT.out
        have hm12 := HM.out
        go_wp2
        go_roundw
        case rel => exact ⟨k + 1, HLT.out, by go_num, Lib.hid HN2.out.1, Lib.hid HN2.out.2⟩
        case measure => have := HLT.out; simp [intOf]; omega
      have hne : ¬ ((appS s.x bt s.d).e = 4 ∨ (appS s.x bt s.d).e = 2) := by rw [← HEW.out]; exact fun q => q.elim h4 h2
      by_cases h0 : Ew = 0
      · subst h0
        obtain ⟨g, cap, w3, hr3, ho3, hc3, hg3⟩ := HO2.out.app (u := .slice A' bt.length C') ⟨_, _, _, rfl⟩ HLIT.out HBB.out (by have := HNO.out.2; have := HM.out; have := HLT.out; omega) HR2.out.ch.size
        have hrg3 : RgW w0 (fun i => (Value.slice (some ⟨g, 0, none⟩) (s.out.length + 1) cap).ownBlock = some i) B R (appS s.x bt s.d).d (appS s.x bt s.d).x w3 := HR2.out.own hc3 (fun i hi => ⟨hi, (HO2.out.at hi).1⟩) (fun i e => by
          have e : some g = some i := e
          injection e with e
          subst e
          exact hg3)
        obtain ⟨q, hq⟩ : ∃ q, q = s.out.length + 1 := ⟨_, rfl⟩
        have HN2 : Hid (AdW w0 B R (adTo ⟨d, x, [], true⟩ (L.take (k + 1))) (.slice (some ⟨g, 0, none⟩) q cap) w3 ∧ ((adTo ⟨d, x, [], true⟩ (L.take (k + 1))).ok = true ∧ (adTo ⟨d, x, [], true⟩ (L.take (k + 1))).out.length ≤ k + 1)) := Lib.hid (by
          rw [HADD.out, hq]
          unfold adStep
          rw [if_pos HNO.out.1, if_neg hne, if_pos HEW.out.symm]
          refine ⟨⟨hrg3, ho3⟩, rfl, ?_⟩
          show (s.out ++ [bt]).length ≤ k + 1
          rw [List.length_append]
          have := HNO.out.2
          simp only [List.length_cons, List.length_nil]
          omega)
        obtain ⟨ws, hws⟩ : ∃ ws, ws = w2.alloc (.cells #[.slice A' bt.length C'] /-t-/24) := ⟨_, rfl⟩
        obtain ⟨Xs, hXs⟩ : ∃ Xs, Xs = w2.heap.size := ⟨_, rfl⟩
        obtain ⟨p0, hp0⟩ : ∃ p0, p0 = s.out.length := ⟨_, rfl⟩
        rw [← hq, ← hws, ← hXs, ← hp0] at hr3
        rw [← hp0]
        have HAP := Lib.hid hr3
        have HWS := Lib.hid hws
        have HXS := Lib.hid hXs
        have c2 := HR2.out.ch.cell HC0.out (fun f => f)
        have hlt2 := HLT.out
        have hm12 := HM.out
        obtain ⟨nb, hnb⟩ : ∃ nb, nb = bt.length := ⟨_, rfl⟩
        rw [← hnb] at c2 HWS ⊢
        clear hr3 ho3 hc3 hg3 hrg3 hws hXs hp0 hq hne h4 h2 hnb
        go_wp2_with (first
          | (at_builtin; rw [← HWS.out, ← HXS.out]; refine wpList_appB _ rfl (.tmp 30) (.tmp 35) rfl rfl _ _ (.slice (some ⟨g, 0, none⟩) q cap) w3 rfl rfl (by exact HAP.out) ?_)
          | fail)
        go_roundw
        case rel => exact ⟨k + 1, HLT.out, by go_num, Lib.hid HN2.out.1, Lib.hid HN2.out.2⟩
        case measure => have := HLT.out; simp [intOf]; omega
      · have HFIN : Hid (AdPost w0 B R (adTo ⟨d, x, [], true⟩ L) (.returned (.tuple #[.slice Av s.out.length Cv, .bool false])) w2) := Lib.hid (by
          have hst : adTo ⟨d, x, [], true⟩ (L.take (k + 1)) = ⟨(appS s.x bt s.d).d, (appS s.x bt s.d).x, s.out, false⟩ := by
            rw [HADD.out]
            unfold adStep
            rw [if_pos HNO.out.1, if_neg hne, if_neg (by rw [← HEW.out]; exact h0)]
          have := HCUT.out (by rw [hst])
          rw [this, hst]
          exact ⟨_, rfl, HR2.out, HO2.out⟩)
        clear hne
        have hb4 : (Ew == 4) = false := beq_eq_false_iff_ne.2 h4
        have hb2 : (Ew == 2) = false := beq_eq_false_iff_ne.2 h2
        go_wp2
        all_goals first | (exfalso; rename_i hq; rcases hq with hq | hq <;> first | exact h4 (eq_of_beq hq) | exact h2 (eq_of_beq hq)) | skip
        go_ret2
        exact HFIN.out
    · obtain rfl : k = m := by omega
      have hall : L.take k = L := List.take_of_length_le (by rw [HLL.out]; exact Nat.le_refl _)
      have hok := HOO.out.1
      have hkk := HK.out
      rw [hall] at hok hkk ⊢
      have HFIN : Hid (AdPost w0 B R (adTo ⟨d, x, [], true⟩ L) (.returned (.tuple #[.slice Av (adTo ⟨d, x, [], true⟩ L).out.length Cv, .bool true])) wr) := Lib.hid ⟨.slice Av (adTo ⟨d, x, [], true⟩ L).out.length Cv, by rw [hok], hkk⟩
      clear hlt hk hall hok hkk
      go_wp2
      go_ret2
      exact HFIN.out
end Go.Proofs.YteleknojohnlbaaGreat
