/-
  The document's own device (quartermasterref06) in memory: its block, its lists, its rows, what waits; what may happen to it.
-/
import Derived.Test.YtjibfoplihaabaaMg19
import Derived.Test.YtjibfoplihaabaaMg12
namespace Go.Proofs.Ytjibfoplihaabaa
open Go.RowKit
set_option linter.unusedVariables false
set_option maxRecDepth 100000

/-! ### rows that are shared, and never turned -/
def BRow (w : World) (v : Value) (z : Nat → Nat) : Prop :=
  ∃ b o C c, v = .slice (some ⟨b, o, none⟩) 256 C ∧ 256 ≤ C ∧ w.heap[b]? = some (.cells c /-t-/5 (0, 0)) ∧ ∀ j, j < 256 → c[o + j]? = some (.int .u8 (z j : Int)) ∧ z j < 256
theorem BRow.of {w w' : World} {v : Value} {z : Nat → Nat} (h : BRow w v z) (k : ∀ i, v.ownBlock = some i → w'.heap[i]? = w.heap[i]?) : BRow w' v z := by
  obtain ⟨b, o, C, c, rfl, h1, h2, h3⟩ := h
  exact ⟨b, o, C, c, rfl, h1, (k b rfl).trans h2, h3⟩
theorem BRow.at {w : World} {v : Value} {z : Nat → Nat} (h : BRow w v z) {i : Nat} (hi : v.ownBlock = some i) : ∃ c, w.heap[i]? = some (.cells c /-t-/5 (0, 0)) := by
  obtain ⟨b, o, C, c, rfl, h1, h2, h3⟩ := h
  injection hi with hi
  subst hi
  exact ⟨c, h2⟩
theorem BRow.row {w : World} {v : Value} {z : Nat → Nat} (h : BRow w v z) : RowV w v 256 z := by
  obtain ⟨b, o, C, c, rfl, h1, h2, h3⟩ := h
  exact ⟨_, _, rfl, by omega, fun _ => ⟨b, o, rfl, fun j hj => ⟨(blk_cell h2).trans (h3 j hj).1, (h3 j hj).2⟩⟩⟩
theorem BRow.bytes {w : World} {v : Value} {z : Nat → Nat} (h : BRow w v z) : Bytes 256 z := h.row.bytes
theorem BRow.form {w : World} {v : Value} {z : Nat → Nat} (h : BRow w v z) : ∃ b o C, v = .slice (some ⟨b, o, none⟩) 256 C := by
  obtain ⟨b, o, C, c, rfl, _⟩ := h
  exact ⟨b, o, C, rfl⟩
theorem BRow.congr {w : World} {v : Value} {z y : Nat → Nat} (h : BRow w v z) (e : ∀ j, j < 256 → z j = y j) : BRow w v y := by
  obtain ⟨b, o, C, c, rfl, h1, h2, h3⟩ := h
  exact ⟨b, o, C, c, rfl, h1, h2, fun j hj => by rw [← e j hj]; exact h3 j hj⟩
theorem BRow.own {w : World} {base : Nat} {v : Value} {z : Nat → Nat} (h : w.ownsRow base /-t-/5 1 v 256 (bytesL 256 z)) (hz : Bytes 256 z) : BRow w v z := by
  rcases h.2 with ⟨_, q⟩ | ⟨g, cap, cur, rfl, _, h1, h2, _, h4, h5⟩
  · omega
  · refine ⟨g, 0, cap, cur, rfl, h2, h1, fun j hj => ⟨?_, hz j hj⟩⟩
    have e := congrArg (fun l : List Value => l[j]?) h5
    simp only [Nat.mul_one] at e
    rw [List.getElem?_take, if_pos hj, bytesL_get hj, Array.getElem?_toList] at e
    rw [Nat.zero_add]
    exact e
theorem BRow.rowIs {w : World} {b : Nat} {z : Nat → Nat} (h : w.rowIs b /-t-/5 256 (fun i => .int .u8 (z i : Int))) (hz : Bytes 256 z) : BRow w (.slice (some ⟨b, 0, none⟩) 256 256) z := by
  obtain ⟨c, hc, hs, hf⟩ := h
  exact ⟨b, 0, 256, c, rfl, Nat.le_refl _, hc, fun j hj => ⟨by rw [Nat.zero_add]; exact hf j hj, hz j hj⟩⟩

/-! ### the device -/
structure Rh where
  B : Nat
  G : Nat
  L : Nat
  P : Nat
  Q : Nat
  cG : Nat
  cL : Nat
  cP : Nat
  cQ : Nat
  V : Value
  s : Nat → Value
  X : List (Wt × Value)
  m : Nat → Value
  lf : Int
def refC (q : Rh) (d : Dev) : Array Value := #[.slice (some ⟨q.G, 0, none⟩) d.n q.cG, .slice (some ⟨q.L, 0, none⟩) d.n q.cL, q.V, .slice (some ⟨q.P, 0, none⟩) d.n q.cP, .slice (some ⟨q.Q, 0, none⟩) d.n q.cQ, .bool d.armed, .bool d.dead, .int .i64 q.lf, .int .i64 (d.ops : Int)]
def wlC (y : Wt × Value) : List Value := [.int .i64 (y.1.pl : Int), y.2]
def wlL (X : List (Wt × Value)) : List Value := X.flatMap wlC
theorem wlL_len (X : List (Wt × Value)) : (wlL X).length = X.length * 2 := by
  unfold wlL
  induction X with
  | nil => rfl
  | cons x r ih => rw [List.flatMap_cons, List.length_append, ih, List.length_cons]; show 2 + _ = _; omega
theorem wlL_snoc (X : List (Wt × Value)) (y : Wt × Value) : wlL (X ++ [y]) = wlL X ++ wlC y := by unfold wlL; simp
theorem wlL_get : ∀ {X : List (Wt × Value)} {i j : Nat} {y : Wt × Value}, X[i]? = some y → j < 2 → (wlL X)[i * 2 + j]? = (wlC y)[j]?
  | x :: r, 0, j, y, h, hj => by
    rw [List.getElem?_cons_zero, Option.some.injEq] at h
    subst h
    unfold wlL
    rw [List.flatMap_cons, Nat.zero_mul, Nat.zero_add, List.getElem?_append_left (show j < (wlC x).length from hj)]
  | x :: r, i + 1, j, y, h, hj => by
    rw [List.getElem?_cons_succ] at h
    have := wlL_get h hj
    unfold wlL at this ⊢
    rw [List.flatMap_cons, List.getElem?_append_right (show (wlC x).length ≤ _ by show 2 ≤ _; omega), show (i + 1) * 2 + j - (wlC x).length = i * 2 + j by show _ - 2 = _; omega]
    exact this
structure RefIs (base : Nat) (F : Nat → Prop) (w : World) (q : Rh) (d : Dev) : Prop where
  blk : w.heap[q.B]? = some (.cells (refC q d) 67 (0, 0))
  sec : SecsIs w q.G /-t-/47 d.n q.s
  los : SecsIs w q.L /-t-/4 d.n (fun a => .bool (d.lost a))
  drp : SecsIs w q.P /-t-/3 d.n (fun a => .int .i64 (d.drops a : Int))
  mis : SecsIs w q.Q 39 d.n q.m
  wts : w.ownsRow base 102 2 q.V q.X.length (wlL q.X)
  XW : q.X.map Prod.fst = d.W
  srow : ∀ a, a < d.n → BRow w (q.s a) (d.has a)
  xrow : ∀ y ∈ q.X, BRow w y.2 y.1.z
  ms : ∀ a, a < d.n → MissIs w (q.m a) (d.miss a)
  mP : ∀ a, a < d.n → (q.m a).ownBlock ≠ some q.P
  fB : F q.B
  fG : F q.G
  fL : F q.L
  fP : F q.P
  fQ : F q.Q
  fV : ∀ i, q.V.ownBlock = some i → F i
  fs : ∀ a, a < d.n → ∀ i, (q.s a).ownBlock = some i → F i
  fx : ∀ y ∈ q.X, ∀ i, y.2.ownBlock = some i → F i
  fm : ∀ a, a < d.n → ∀ i, (q.m a).ownBlock = some i → F i
  wok : ∀ x ∈ d.W, x.pl < d.n
  mok : ∀ a, a < d.n → ∀ x ∈ d.miss a, x < d.n
  nn : 1 ≤ d.n ∧ d.n ≤ 4096
  lf : I64 q.lf
  lfa : d.armed = true → q.lf = d.left ∧ 0 ≤ d.left
  low : ∀ i, F i → base ≤ i
  hi : ∀ i, F i → i < w.heap.size
/-- With what is new. -/
def FX (F : Nat → Prop) (w w' : World) (i : Nat) : Prop := F i ∨ (w.heap.size ≤ i ∧ i < w'.heap.size)
/-- The answer of a call. -/
def RPost (base : Nat) (F : Nat → Prop) (B : Nat) (d' : Dev) (r : Value) (w : World) (e : Ending) (w' : World) : Prop :=
  e = .returned r ∧ ∃ q', q'.B = B ∧ RefIs base (FX F w w') w' q' d' ∧ Ch F w w'
section
variable {base : Nat} {F : Nat → Prop} {w w' : World} {q : Rh} {d : Dev}
/-- All of its blocks stand. -/
theorem RefIs.stay (h : RefIs base F w q d) (k : ∀ i, F i → w'.heap[i]? = w.heap[i]?) (hs : w.heap.size ≤ w'.heap.size) : RefIs base F w' q d :=
  ⟨(k _ h.fB).trans h.blk, h.sec.of_block (k _ h.fG), h.los.of_block (k _ h.fL), h.drp.of_block (k _ h.fP), h.mis.of_block (k _ h.fQ), own_of h.wts (fun i hi => k i (h.fV i hi)), h.XW,
    fun a ha => (h.srow a ha).of (fun i hi => k i (h.fs a ha i hi)), fun y hy => (h.xrow y hy).of (fun i hi => k i (h.fx y hy i hi)), fun a ha => (h.ms a ha).of (fun i hi => k i (h.fm a ha i hi)), h.mP,
    h.fB, h.fG, h.fL, h.fP, h.fQ, h.fV, h.fs, h.fx, h.fm, h.wok, h.mok, h.nn, h.lf, h.lfa, h.low, fun i hi => Nat.lt_of_lt_of_le (h.hi i hi) hs⟩
theorem RefIs.ch {S : Nat → Prop} (h : RefIs base F w q d) (k : Ch S w w') (hS : ∀ i, F i → ¬ S i) : RefIs base F w' q d := h.stay (fun i hi => k.block i (h.hi i hi) (hS i hi)) k.size
theorem RefIs.gr (h : RefIs base F w q d) (k : Ch (fun _ => False) w w') : RefIs base F w' q d := h.ch k (fun _ _ f => f)
theorem RefIs.wide {F' : Nat → Prop} (h : RefIs base F w q d) (k : ∀ i, F i → F' i) (hl : ∀ i, F' i → base ≤ i ∧ i < w.heap.size) : RefIs base F' w q d :=
  ⟨h.blk, h.sec, h.los, h.drp, h.mis, h.wts, h.XW, h.srow, h.xrow, h.ms, h.mP, k _ h.fB, k _ h.fG, k _ h.fL, k _ h.fP, k _ h.fQ, fun i hi => k i (h.fV i hi), fun a ha i hi => k i (h.fs a ha i hi), fun y hy i hi => k i (h.fx y hy i hi), fun a ha i hi => k i (h.fm a ha i hi),
    h.wok, h.mok, h.nn, h.lf, h.lfa, fun i hi => (hl i hi).1, fun i hi => (hl i hi).2⟩
theorem RefIs.le (h : RefIs base F w q d) : base ≤ w.heap.size := Nat.le_of_lt (Nat.lt_of_le_of_lt (h.low _ h.fB) (h.hi _ h.fB))
/-- What is new belongs to it. -/
theorem RefIs.grow {w0 : World} (h : RefIs base F w q d) (h0 : base ≤ w0.heap.size) (hs : w0.heap.size ≤ w.heap.size) : RefIs base (FX F w0 w) w q d :=
  h.wide (fun i hi => Or.inl hi) (fun i hi => hi.elim (fun f => ⟨h.low i f, h.hi i f⟩) (fun f => ⟨Nat.le_trans h0 f.1, f.2⟩))
theorem FX.trans {w0 w1 w2 : World} (k1 : w0.heap.size ≤ w1.heap.size) (k2 : w1.heap.size ≤ w2.heap.size) {i : Nat} (h : FX (FX F w0 w1) w1 w2 i) : FX F w0 w2 i := by
  rcases h with (h | h) | h
  · exact Or.inl h
  · exact Or.inr ⟨h.1, Nat.lt_of_lt_of_le h.2 k2⟩
  · exact Or.inr ⟨Nat.le_trans k1 h.1, h.2⟩
theorem RefIs.low' (h : RefIs base F w q d) {i : Nat} (hi : F i) : base ≤ i ∧ i < w.heap.size := ⟨h.low i hi, h.hi i hi⟩
theorem Ch.FX {w0 w1 w2 : World} (h : Ch F w0 w1) (k : Ch (FX F w0 w1) w1 w2) : Ch F w0 w2 :=
  ⟨k.os.trans h.os, k.tape.trans h.tape, k.output.trans h.output, Nat.le_trans h.size k.size, fun i hi hS => (k.block i (Nat.lt_of_lt_of_le hi h.size) (fun e => e.elim hS (fun q => by omega))).trans (h.block i hi hS)⟩
theorem RefIs.then {w0 w1 w2 : World} {q2 : Rh} {d2 : Dev} (h : RefIs base (FX (FX F w0 w1) w1 w2) w2 q2 d2) (k1 : w0.heap.size ≤ w1.heap.size) (k2 : w1.heap.size ≤ w2.heap.size) (h0 : base ≤ w0.heap.size) (hF : ∀ i, F i → base ≤ i ∧ i < w0.heap.size) : RefIs base (FX F w0 w2) w2 q2 d2 :=
  h.wide (fun i hi => FX.trans k1 k2 hi) (fun i hi => hi.elim (fun f => ⟨(hF i f).1, by have := (hF i f).2; omega⟩) (fun f => ⟨by omega, f.2⟩))
theorem RPost.from {w0 w1 : World} {d' : Dev} {B : Nat} {r : Value} {e : Ending} (h : RPost base (FX F w0 w1) B d' r w1 e w') (k : Ch F w0 w1) (h0 : base ≤ w0.heap.size) (hF : ∀ i, F i → base ≤ i ∧ i < w0.heap.size) : RPost base F B d' r w0 e w' := by
  obtain ⟨h1, q', h2, h3, h4⟩ := h
  exact ⟨h1, q', h2, h3.then k.size h4.size h0 hF, k.FX h4⟩
theorem RPost.mk {d' : Dev} {q' : Rh} {r : Value} (h : RefIs base F w' q' d') (k : Ch F w w') (h0 : base ≤ w.heap.size) : RPost base F q'.B d' r w (.returned r) w' := ⟨rfl, q', rfl, h.grow h0 k.size, k⟩
/-! what stands where -/
theorem RefIs.cellB (h : RefIs base F w q d) (i : Nat) : w.cell? ⟨q.B, i, none⟩ = (refC q d)[i]? := blk_cell h.blk
theorem RefIs.frB (h : RefIs base F w q d) (i : Nat) : w.frozen? ⟨q.B, i, none⟩ = false := blk_frozen h.blk
theorem RefIs.cellS (h : RefIs base F w q d) {a : Nat} (ha : a < d.n) : w.cell? ⟨q.G, a, none⟩ = some (q.s a) := h.sec.cell ha
theorem RefIs.cellL (h : RefIs base F w q d) {a : Nat} (ha : a < d.n) : w.cell? ⟨q.L, a, none⟩ = some (.bool (d.lost a)) := h.los.cell ha
theorem RefIs.cellP (h : RefIs base F w q d) {a : Nat} (ha : a < d.n) : w.cell? ⟨q.P, a, none⟩ = some (.int .i64 (d.drops a : Int)) := h.drp.cell ha
theorem RefIs.cellQ (h : RefIs base F w q d) {a : Nat} (ha : a < d.n) : w.cell? ⟨q.Q, a, none⟩ = some (q.m a) := h.mis.cell ha
theorem RefIs.vform (h : RefIs base F w q d) : ∃ A C, q.V = .slice A q.X.length C := by
  rcases h.wts.2 with ⟨hv, h0⟩ | ⟨g, cap, cur, hv, _⟩
  · exact ⟨none, 0, by rw [hv, h0]⟩
  · exact ⟨_, _, hv⟩
theorem RefIs.wt (h : RefIs base F w q d) {k : Nat} {y : Wt × Value} (hk : q.X[k]? = some y) : ∃ g cap, q.V = .slice (some ⟨g, 0, none⟩) q.X.length cap ∧ w.cell? ⟨g, k * 2, none⟩ = some (.int .i64 (y.1.pl : Int)) ∧ w.cell? ⟨g, k * 2 + 1, none⟩ = some y.2 := by
  have hl : k < q.X.length := (List.getElem?_eq_some_iff.1 hk).1
  obtain ⟨g, cap, hv, _, _⟩ := World.ownsRow.form h.wts (by omega)
  have at' : ∀ j v, j < 2 → (wlC y)[j]? = some v → w.cell? ⟨g, k * 2 + j, none⟩ = some v := fun j v hj hv2 => by
    have h2 := World.ownsRow.cells (h := (hv ▸ h.wts)) (g := g) rfl (k * 2 + j) v (by rw [wlL_get hk hj]; exact hv2)
    rwa [add_pl, Nat.zero_add] at h2
  exact ⟨g, cap, hv, at' 0 _ (by omega) rfl, at' 1 _ (by omega) rfl⟩
theorem RefIs.Xpl (h : RefIs base F w q d) {y : Wt × Value} (hy : y ∈ q.X) : y.1.pl < d.n := h.wok y.1 (by rw [← h.XW]; exact List.mem_map.2 ⟨y, hy, rfl⟩)
/-! blocks apart, by their types -/
theorem RefIs.BG (h : RefIs base F w q d) : q.B ≠ q.G := by obtain ⟨c, hc, _⟩ := h.sec; exact cells_ne h.blk hc (by decide)
theorem RefIs.BL (h : RefIs base F w q d) : q.B ≠ q.L := by obtain ⟨c, hc, _⟩ := h.los; exact cells_ne h.blk hc (by decide)
theorem RefIs.BP (h : RefIs base F w q d) : q.B ≠ q.P := by obtain ⟨c, hc, _⟩ := h.drp; exact cells_ne h.blk hc (by decide)
theorem RefIs.BQ (h : RefIs base F w q d) : q.B ≠ q.Q := by obtain ⟨c, hc, _⟩ := h.mis; exact cells_ne h.blk hc (by decide)
theorem RefIs.GL (h : RefIs base F w q d) : q.G ≠ q.L := by obtain ⟨c, hc, _⟩ := h.sec; obtain ⟨e, he, _⟩ := h.los; exact cells_ne hc he (by decide)
theorem RefIs.GP (h : RefIs base F w q d) : q.G ≠ q.P := by obtain ⟨c, hc, _⟩ := h.sec; obtain ⟨e, he, _⟩ := h.drp; exact cells_ne hc he (by decide)
theorem RefIs.GQ (h : RefIs base F w q d) : q.G ≠ q.Q := by obtain ⟨c, hc, _⟩ := h.sec; obtain ⟨e, he, _⟩ := h.mis; exact cells_ne hc he (by decide)
theorem RefIs.LP (h : RefIs base F w q d) : q.L ≠ q.P := by obtain ⟨c, hc, _⟩ := h.los; obtain ⟨e, he, _⟩ := h.drp; exact cells_ne hc he (by decide)
theorem RefIs.LQ (h : RefIs base F w q d) : q.L ≠ q.Q := by obtain ⟨c, hc, _⟩ := h.los; obtain ⟨e, he, _⟩ := h.mis; exact cells_ne hc he (by decide)
theorem RefIs.PQ (h : RefIs base F w q d) : q.P ≠ q.Q := by obtain ⟨c, hc, _⟩ := h.drp; obtain ⟨e, he, _⟩ := h.mis; exact cells_ne hc he (by decide)
/-- A block that is none of bytes, of ints or of waits is no row's. -/
theorem RefIs.off (h : RefIs base F w q d) {g : Nat} {c : Array Value} {t : TypeId} {f : Nat × Nat} (hg : w.heap[g]? = some (.cells c t f)) (h1 : t ≠ /-t-/5) : (∀ a, a < d.n → (q.s a).ownBlock ≠ some g) ∧ ∀ y ∈ q.X, y.2.ownBlock ≠ some g :=
  ⟨fun a ha e => by obtain ⟨c2, hc2⟩ := (h.srow a ha).at e; exact cells_ne hg hc2 h1 rfl, fun y hy e => by obtain ⟨c2, hc2⟩ := (h.xrow y hy).at e; exact cells_ne hg hc2 h1 rfl⟩
theorem RefIs.offM (h : RefIs base F w q d) {g : Nat} {c : Array Value} {t : TypeId} {f : Nat × Nat} (hg : w.heap[g]? = some (.cells c t f)) (h1 : t ≠ /-t-/3) : ∀ a, a < d.n → (q.m a).ownBlock ≠ some g :=
  fun a ha e => by obtain ⟨c2, hc2⟩ := (h.ms a ha).at e; exact cells_ne hg hc2 h1 rfl
theorem RefIs.offV (h : RefIs base F w q d) {g : Nat} {c : Array Value} {t : TypeId} {f : Nat × Nat} (hg : w.heap[g]? = some (.cells c t f)) (h1 : t ≠ 102) : q.V.ownBlock ≠ some g :=
  fun e => by obtain ⟨_, c2, hc2⟩ := own_at h.wts e; exact cells_ne hg hc2 h1 rfl
/-! what turns -/
/-- A cell of its own block. -/
theorem RefIs.setB (h : RefIs base F w q d) (i : Nat) (v : Value) (dead armed : Bool) (left : Int) (ops : Nat) (l : Int) (e : refC { q with lf := l } { d with dead := dead, armed := armed, left := left, ops := ops } = (refC q d).setIfInBounds i v) (hl : I64 l) (ha : armed = true → l = left ∧ 0 ≤ left) :
    RefIs base F (w.setCell ⟨q.B, i, none⟩ v) { q with lf := l } { d with dead := dead, armed := armed, left := left, ops := ops } := by
  have k : ∀ g, g ≠ q.B → (w.setCell ⟨q.B, i, none⟩ v).heap[g]? = w.heap[g]? := fun g hg => Below.heap_setCell w _ v g hg
  have o := h.off h.blk (by decide)
  have oM := h.offM h.blk (by decide)
  have oV := h.offV h.blk (by decide)
  exact ⟨(blk_set h.blk v).trans (by rw [e]), h.sec.of_block (k _ h.BG.symm), h.los.of_block (k _ h.BL.symm), h.drp.of_block (k _ h.BP.symm), h.mis.of_block (k _ h.BQ.symm), own_of h.wts (fun i hi => k i (fun e => oV (e ▸ hi))), h.XW,
    fun a ha => (h.srow a ha).of (fun i hi => k i (fun e => o.1 a ha (e ▸ hi))), fun y hy => (h.xrow y hy).of (fun i hi => k i (fun e => o.2 y hy (e ▸ hi))), fun a ha => (h.ms a ha).of (fun i hi => k i (fun e => oM a ha (e ▸ hi))), h.mP,
    h.fB, h.fG, h.fL, h.fP, h.fQ, h.fV, h.fs, h.fx, h.fm, h.wok, h.mok, h.nn, hl, ha, h.low, fun i hi => by simpa [World.setCell] using h.hi i hi⟩
/-- A row of a sector. -/
theorem RefIs.setS (h : RefIs base F w q d) {a : Nat} (v : Value) (z : Nat → Nat) (hv : BRow w v z) (hF : ∀ i, v.ownBlock = some i → F i) :
    RefIs base F (w.setCell ⟨q.G, a, none⟩ v) { q with s := up q.s a v } { d with has := up d.has a z } := by
  obtain ⟨cg, hcg, _⟩ := id h.sec
  have k : ∀ g, g ≠ q.G → (w.setCell ⟨q.G, a, none⟩ v).heap[g]? = w.heap[g]? := fun g hg => Below.heap_setCell w _ v g hg
  have o := h.off hcg (by decide)
  have oM := h.offM hcg (by decide)
  have oV := h.offV hcg (by decide)
  have hvG : v.ownBlock ≠ some q.G := fun e => by obtain ⟨c2, hc2⟩ := hv.at e; exact cells_ne hcg hc2 (by decide) rfl
  refine ⟨(k _ h.BG).trans h.blk, h.sec.set a v, h.los.of_block (k _ h.GL.symm), h.drp.of_block (k _ h.GP.symm), h.mis.of_block (k _ h.GQ.symm), own_of h.wts (fun i hi => k i (fun e => oV (e ▸ hi))), h.XW,
    fun b hb => ?_, fun y hy => (h.xrow y hy).of (fun i hi => k i (fun e => o.2 y hy (e ▸ hi))), fun a ha => (h.ms a ha).of (fun i hi => k i (fun e => oM a ha (e ▸ hi))), h.mP,
    h.fB, h.fG, h.fL, h.fP, h.fQ, h.fV, fun b hb i hi => ?_, h.fx, h.fm, h.wok, h.mok, h.nn, h.lf, h.lfa, h.low, fun i hi => by simpa [World.setCell] using h.hi i hi⟩
  · show BRow _ (up q.s a v b) (up d.has a z b)
    by_cases e : b = a
    · rw [e, up_same, up_same]; exact hv.of (fun i hi => k i (fun e => hvG (e ▸ hi)))
    · rw [up_other _ _ e, up_other _ _ e]; exact (h.srow b hb).of (fun i hi => k i (fun e => o.1 b hb (e ▸ hi)))
  · change (up q.s a v b).ownBlock = some i at hi
    by_cases e : b = a
    · rw [e, up_same] at hi; exact hF i hi
    · rw [up_other _ _ e] at hi; exact h.fs b hb i hi
/-- Whether a sector is lost. -/
theorem RefIs.setL (h : RefIs base F w q d) {a : Nat} (x : Bool) : RefIs base F (w.setCell ⟨q.L, a, none⟩ (.bool x)) q { d with lost := up d.lost a x } := by
  obtain ⟨cg, hcg, _⟩ := id h.los
  have k : ∀ g, g ≠ q.L → (w.setCell ⟨q.L, a, none⟩ (.bool x)).heap[g]? = w.heap[g]? := fun g hg => Below.heap_setCell w _ _ g hg
  have o := h.off hcg (by decide)
  have oM := h.offM hcg (by decide)
  have oV := h.offV hcg (by decide)
  refine ⟨(k _ h.BL).trans h.blk, h.sec.of_block (k _ h.GL), (h.los.set a (.bool x)).congr (fun b _ => ?_), h.drp.of_block (k _ h.LP.symm), h.mis.of_block (k _ h.LQ.symm), own_of h.wts (fun i hi => k i (fun e => oV (e ▸ hi))), h.XW,
    fun b hb => (h.srow b hb).of (fun i hi => k i (fun e => o.1 b hb (e ▸ hi))), fun y hy => (h.xrow y hy).of (fun i hi => k i (fun e => o.2 y hy (e ▸ hi))), fun a ha => (h.ms a ha).of (fun i hi => k i (fun e => oM a ha (e ▸ hi))), h.mP,
    h.fB, h.fG, h.fL, h.fP, h.fQ, h.fV, h.fs, h.fx, h.fm, h.wok, h.mok, h.nn, h.lf, h.lfa, h.low, fun i hi => by simpa [World.setCell] using h.hi i hi⟩
  show (if b = a then Value.bool x else .bool (d.lost b)) = .bool (up d.lost a x b)
  unfold up
  split <;> rfl
/-- How many are to be dropped. -/
theorem RefIs.setP (h : RefIs base F w q d) {a : Nat} (x : Nat) : RefIs base F (w.setCell ⟨q.P, a, none⟩ (.int .i64 (x : Int))) q { d with drops := up d.drops a x } := by
  obtain ⟨cg, hcg, _⟩ := id h.drp
  have k : ∀ g, g ≠ q.P → (w.setCell ⟨q.P, a, none⟩ (.int .i64 (x : Int))).heap[g]? = w.heap[g]? := fun g hg => Below.heap_setCell w _ _ g hg
  have o := h.off hcg (by decide)
  have oV := h.offV hcg (by decide)
  refine ⟨(k _ h.BP).trans h.blk, h.sec.of_block (k _ h.GP), h.los.of_block (k _ h.LP), (h.drp.set a _).congr (fun b _ => ?_), h.mis.of_block (k _ h.PQ.symm), own_of h.wts (fun i hi => k i (fun e => oV (e ▸ hi))), h.XW,
    fun b hb => (h.srow b hb).of (fun i hi => k i (fun e => o.1 b hb (e ▸ hi))), fun y hy => (h.xrow y hy).of (fun i hi => k i (fun e => o.2 y hy (e ▸ hi))), fun a ha => (h.ms a ha).of (fun i hi => k i (fun e => h.mP a ha (e ▸ hi))), h.mP,
    h.fB, h.fG, h.fL, h.fP, h.fQ, h.fV, h.fs, h.fx, h.fm, h.wok, h.mok, h.nn, h.lf, h.lfa, h.low, fun i hi => by simpa [World.setCell] using h.hi i hi⟩
  show (if b = a then Value.int .i64 (x : Int) else .int .i64 (d.drops b : Int)) = .int .i64 ((up d.drops a x b : Nat) : Int)
  unfold up
  split <;> rfl
/-- What is misled of one sector. -/
theorem RefIs.setQ (h : RefIs base F w q d) {a : Nat} (v : Value) (l : List Nat) (hv : MissIs w v l) (hP : v.ownBlock ≠ some q.P) (hF : ∀ i, v.ownBlock = some i → F i) (hl : ∀ x ∈ l, x < d.n) :
    RefIs base F (w.setCell ⟨q.Q, a, none⟩ v) { q with m := up q.m a v } { d with miss := up d.miss a l } := by
  obtain ⟨cg, hcg, _⟩ := id h.mis
  have k : ∀ g, g ≠ q.Q → (w.setCell ⟨q.Q, a, none⟩ v).heap[g]? = w.heap[g]? := fun g hg => Below.heap_setCell w _ v g hg
  have o := h.off hcg (by decide)
  have oM := h.offM hcg (by decide)
  have oV := h.offV hcg (by decide)
  have hvG : v.ownBlock ≠ some q.Q := fun e => by obtain ⟨c2, hc2⟩ := hv.at e; exact cells_ne hcg hc2 (by decide) rfl
  refine ⟨(k _ h.BQ).trans h.blk, h.sec.of_block (k _ h.GQ), h.los.of_block (k _ h.LQ), h.drp.of_block (k _ h.PQ), h.mis.set a v, own_of h.wts (fun i hi => k i (fun e => oV (e ▸ hi))), h.XW,
    fun b hb => (h.srow b hb).of (fun i hi => k i (fun e => o.1 b hb (e ▸ hi))), fun y hy => (h.xrow y hy).of (fun i hi => k i (fun e => o.2 y hy (e ▸ hi))), fun b hb => ?_, fun b hb => ?_,
    h.fB, h.fG, h.fL, h.fP, h.fQ, h.fV, h.fs, h.fx, fun b hb i hi => ?_, h.wok, fun b hb x hx => ?_, h.nn, h.lf, h.lfa, h.low, fun i hi => by simpa [World.setCell] using h.hi i hi⟩
  · show MissIs _ (up q.m a v b) (up d.miss a l b)
    by_cases e : b = a
    · rw [e, up_same, up_same]; exact hv.of (fun i hi => k i (fun e => hvG (e ▸ hi)))
    · rw [up_other _ _ e, up_other _ _ e]; exact (h.ms b hb).of (fun i hi => k i (fun e => oM b hb (e ▸ hi)))
  · show (up q.m a v b).ownBlock ≠ _
    by_cases e : b = a
    · rw [e, up_same]; exact hP
    · rw [up_other _ _ e]; exact h.mP b hb
  · change (up q.m a v b).ownBlock = some i at hi
    by_cases e : b = a
    · rw [e, up_same] at hi; exact hF i hi
    · rw [up_other _ _ e] at hi; exact h.fm b hb i hi
  · change x ∈ up d.miss a l b at hx
    by_cases e : b = a
    · rw [e, up_same] at hx; exact hl x hx
    · rw [up_other _ _ e] at hx; exact h.mok b hb x hx
/-- What waits turns: its block (and new ones) first, then the cell that says where it is. -/
theorem RefIs.setWX {F' : Nat → Prop} (hFF : ∀ i, F i → F' i) (hFl : ∀ i, F' i → base ≤ i ∧ i < w'.heap.size) (h : RefIs base F w q d) (k0 : Ch (fun i => q.V.ownBlock = some i) w w') (v : Value) (X : List (Wt × Value)) (hv : w'.ownsRow base 102 2 v X.length (wlL X)) (hF : ∀ i, v.ownBlock = some i → F' i) (hx : ∀ y ∈ X, BRow w y.2 y.1.z ∧ (∀ i, y.2.ownBlock = some i → F i) ∧ y.1.pl < d.n) :
    RefIs base F' (w'.setCell ⟨q.B, 2, none⟩ v) { q with V := v, X := X } { d with W := X.map Prod.fst } := by
  have oV := h.offV h.blk (by decide)
  have kB : w'.heap[q.B]? = w.heap[q.B]? := k0.block _ (h.hi _ h.fB) oV
  have k : ∀ g, F g → g ≠ q.B → q.V.ownBlock ≠ some g → (w'.setCell ⟨q.B, 2, none⟩ v).heap[g]? = w.heap[g]? := fun g hf hg hV => (Below.heap_setCell w' _ v g hg).trans (k0.block g (h.hi g hf) hV)
  have o := h.off h.blk (by decide)
  have oM := h.offM h.blk (by decide)
  have vG : q.V.ownBlock ≠ some q.G := by obtain ⟨c, hc, _⟩ := h.sec; exact h.offV hc (by decide)
  have vL : q.V.ownBlock ≠ some q.L := by obtain ⟨c, hc, _⟩ := h.los; exact h.offV hc (by decide)
  have vP : q.V.ownBlock ≠ some q.P := by obtain ⟨c, hc, _⟩ := h.drp; exact h.offV hc (by decide)
  have vQ : q.V.ownBlock ≠ some q.Q := by obtain ⟨c, hc, _⟩ := h.mis; exact h.offV hc (by decide)
  have hvB : v.ownBlock ≠ some q.B := fun e => by obtain ⟨_, c2, hc2⟩ := own_at hv e; exact cells_ne (kB.trans h.blk) hc2 (by decide) rfl
  have rows : ∀ {u : Value} {z : Nat → Nat}, BRow w u z → (∀ i, u.ownBlock = some i → F i) → BRow (w'.setCell ⟨q.B, 2, none⟩ v) u z := fun {u z} hu hf => hu.of fun i hi => by
    obtain ⟨c2, hc2⟩ := hu.at hi
    exact k i (hf i hi) (fun e => cells_ne h.blk (e ▸ hc2) (by decide) rfl) (h.offV hc2 (by decide))
  refine ⟨?_, h.sec.of_block (k _ h.fG h.BG.symm vG), h.los.of_block (k _ h.fL h.BL.symm vL), h.drp.of_block (k _ h.fP h.BP.symm vP), h.mis.of_block (k _ h.fQ h.BQ.symm vQ), ?_, rfl,
    fun a ha => rows (h.srow a ha) (h.fs a ha), fun y hy => rows (hx y hy).1 (hx y hy).2.1, fun a ha => (h.ms a ha).of (fun i hi => by
      obtain ⟨c2, hc2⟩ := (h.ms a ha).at hi
      exact k i (h.fm a ha i hi) (fun e => oM a ha (e ▸ hi)) (h.offV hc2 (by decide))), h.mP,
    hFF _ h.fB, hFF _ h.fG, hFF _ h.fL, hFF _ h.fP, hFF _ h.fQ, hF, fun a ha i hi => hFF i (h.fs a ha i hi), fun y hy i hi => hFF i ((hx y hy).2.1 i hi), fun a ha i hi => hFF i (h.fm a ha i hi), fun x hxm => ?_, h.mok, h.nn, h.lf, h.lfa, fun i hi => (hFl i hi).1, fun i hi => by have := (hFl i hi).2; simpa [World.setCell] using this⟩
  · exact blk_set (kB.trans h.blk) v
  · exact own_of hv (fun i hi => Below.heap_setCell w' _ v i (fun e => hvB (by rw [hi, e])))
  · obtain ⟨y, hy, rfl⟩ := List.mem_map.1 hxm
    exact (hx y hy).2.2
theorem RefIs.setW (h : RefIs base F w q d) (k0 : Ch (fun i => q.V.ownBlock = some i) w w') (v : Value) (X : List (Wt × Value)) (hv : w'.ownsRow base 102 2 v X.length (wlL X)) (hF : ∀ i, v.ownBlock = some i → F i) (hx : ∀ y ∈ X, BRow w y.2 y.1.z ∧ (∀ i, y.2.ownBlock = some i → F i) ∧ y.1.pl < d.n) :
    RefIs base F (w'.setCell ⟨q.B, 2, none⟩ v) { q with V := v, X := X } { d with W := X.map Prod.fst } :=
  h.setWX (fun _ f => f) (fun i hi => ⟨h.low i hi, Nat.lt_of_lt_of_le (h.hi i hi) k0.size⟩) k0 v X hv hF hx
end
#print axioms RefIs.setW
#print axioms RefIs.setQ
#print axioms RPost.from
end Go.Proofs.Ytjibfoplihaabaa
