/-
  keep's keeper: a device and a count, behind calls. What a stripe's sectors tell; the document's Stripe (quartermasterref12), walked.
-/
import Derived.Test.YtlbdopcchoklhaaGreatMh29
import Derived.Test.YtlbdopcchoklhaaGreatMh6
import Derived.Test.YtlbdopcchoklhaaGreatMh23
import Derived.Test.YtlbdopcchoklhaaGreatMh3
import Derived.Test.YtlbdopcchoklhaaGreatMh9
import Derived.Test.YtlbdopcchoklhaaGreatMh19
namespace Go.Proofs.YtlbdopcchoklhaaGreat
open Go.RowKit
set_option linter.unusedVariables false
set_option maxRecDepth 100000

/-- Behind w the device at B has turned tto d (its blocks are those of F, and new ones), and the keeper at K has written c. -/
structure KpS (base : Nat) (F : Nat → Prop) (w wr : World) (B K : Nat) (d : Dev) (c : Nat) : Prop where
  dev : ∃ p : Ph, p.B = B ∧ DevIs base wr p d ∧ ∀ i, Foot p d i → F i ∨ w.heap.size ≤ i
  kp : wr.heap[K]? = some (.cells #[.pointer (some ⟨B, 0, none⟩), .int .i64 (c : Int)] 122 (0, 0))
  ch : Ch (fun i => F i ∨ i = K) w wr
/-- Where the device's blocks, and the keeper, lie. -/
structure KpF (base : Nat) (F : Nat → Prop) (w : World) (K : Nat) : Prop where
  le : base ≤ w.heap.size
  low : ∀ i, F i → base ≤ i ∧ i < w.heap.size
  off : ¬ F K
  lt : K < w.heap.size
theorem Ch.via {S T U : Nat → Prop} {a b c : World} (h : Ch S a b) (k : Ch T b c) (hS : ∀ i, i < a.heap.size → S i → U i) (hT : ∀ i, i < a.heap.size → T i → U i) : Ch U a c :=
  ⟨k.os.trans h.os, k.tape.trans h.tape, k.output.trans h.output, Nat.le_trans h.size k.size, fun i hi hU => (k.block i (Nat.lt_of_lt_of_le hi h.size) (fun x => hU (hT i hi x))).trans (h.block i hi (fun x => hU (hS i hi x)))⟩
theorem read_bytes {base : Nat} {w : World} {p : Ph} {d : Dev} (h : DevIs base w p d) (a : Int) : Bytes (readL d a) (readZ d a) := fun c hc => by
  unfold readL at hc
  by_cases q : readE d a = 0
  · rw [if_pos q] at hc
    by_cases q2 : openE d a = 0
    · obtain ⟨_, k, rfl, hk⟩ := openE_ok q2
      unfold readZ
      rw [Int.toNat_natCast]
      cases hl : lastW d.W k with
      | none => exact h.byt k c hk hc
      | some x => exact (h.wok x (scan_mem hl).1).2 c hc
    · unfold readE at q; rw [if_neg q2] at q; exact (q2 q).elim
  · rw [if_neg q] at hc; omega
/-! ### variables of two cells -/
/-- A value is laid into a variable of its own. -/
structure BoxR (w w1 : World) (H : Nat) (cs : Array Value) (t : TypeId) : Prop where
  al : w.alloc (.cells cs t) = w1
  sz : w.heap.size = H
  cx : w1.heap[H]? = some (.cells cs t (0, 0))
  ch : Ch (fun _ => False) w w1
theorem boxR (w : World) (cs : Array Value) (t : TypeId) : ∃ w1 H, BoxR w w1 H cs t := ⟨_, _, rfl, rfl, heap_alloc_new w _, (Ch.refl _ w).alloc _ _⟩
/-- A variable is made, and a value laid into it. -/
structure VarR (w wz wx : World) (H : Nat) (zs cs : Array Value) (t : TypeId) : Prop where
  al : w.alloc (.cells zs t) = wz
  sz : w.heap.size = H
  st : (storeVar t ⟨H, 0, none⟩ (.agg cs)).run Tryz.prog wz = .ok () wx
  cx : wx.heap[H]? = some (.cells cs t (0, 0))
  ch : Ch (fun _ => False) w wx
theorem zero_put (w : World) : (zeroValue 35).run Tryz.prog w = .ok (.agg #[.int .i64 0, .slice none 0 0]) w := by kernel_rfl
theorem zero_kp (w : World) : (zeroValue 122).run Tryz.prog w = .ok (.agg #[.pointer none, .int .i64 0]) w := by kernel_rfl
theorem size_put : (Tryz.prog.info? 35).map (·.size) = some 2 := by kernel_rfl
theorem size_kp : (Tryz.prog.info? 122).map (·.size) = some 2 := by kernel_rfl
theorem varR {t : TypeId} {u v x y : Value} (ht : (Tryz.prog.info? t).map (·.size) = some 2) (hx : x.oneCell' = true) (hy : y.oneCell' = true) (w : World) : ∃ wz wx H, VarR w wz wx H #[u, v] #[x, y] t :=
  ⟨_, w.alloc (.cells #[x, y] t), w.heap.size, rfl, rfl, run_storeVar_new (P := Tryz.prog) w _ _ _ ht rfl (all_oneCell_toArray (cs := [x, y]) fun u hu => by
    rcases List.mem_cons.1 hu with rfl | hu
    · exact hx
    · rw [List.mem_singleton.1 hu]; exact hy), heap_alloc_new _ _, (Ch.refl _ w).alloc _ _⟩
section
variable {base : Nat} {F : Nat → Prop} {w wr w' : World} {B K c : Nat} {d d' : Dev}
theorem KpS.gr (h : KpS base F w wr B K d c) (k : Ch (fun _ => False) wr w') : KpS base F w w' B K d c := by
  obtain ⟨p, h1, h2, h3⟩ := h.dev
  exact ⟨⟨p, h1, h2.gr k, h3⟩, (k.block K (blk_lt h.kp) (fun f => f)).trans h.kp, h.ch.via k (fun _ _ x => x) (fun _ _ f => f.elim)⟩
theorem KpS.c0 (h : KpS base F w wr B K d c) : wr.cell? ⟨K, 0, none⟩ = some (.pointer (some ⟨B, 0, none⟩)) := blk_cell h.kp
theorem KpS.c1 (h : KpS base F w wr B K d c) : wr.cell? ⟨K, 1, none⟩ = some (.int .i64 (c : Int)) := blk_cell h.kp
theorem KpS.fr (h : KpS base F w wr B K d c) (i : Nat) : wr.frozen? ⟨K, i, none⟩ = false := blk_frozen h.kp
theorem KpS.then (h : KpS base F w wr B K d c) (hF : KpF base F w K) {p p' : Ph} (h1 : p.B = B) (h3 : ∀ i, Foot p d i → F i ∨ w.heap.size ≤ i) (q1 : p'.B = p.B) (q2 : DevIs base w' p' d') (q3 : ∀ i, Foot p' d' i → Foot p d i ∨ wr.heap.size ≤ i) (q4 : Ch (Foot p d) wr w') : KpS base F w w' B K d' c := by
  refine ⟨⟨p', q1.trans h1, q2, fun i hi => (q3 i hi).elim (h3 i) fun x => Or.inr (Nat.le_trans h.ch.size x)⟩, (q4.block K (blk_lt h.kp) fun x => ?_).trans h.kp, h.ch.via q4 (fun _ _ x => x) fun i hi x => Or.inl ((h3 i x).elim id fun y => by omega)⟩
  have := hF.lt
  exact (h3 K x).elim hF.off fun y => by omega
theorem KpS.run {r : Value} {f : FuncId} {args : Array Value} (h : KpS base F w wr B K d c) (hF : KpF base F w K) (g : ∀ p : Ph, p.B = B → DevIs base wr p d → (∀ i, Foot p d i → F i ∨ w.heap.size ≤ i) → Calls Tryz.prog f args wr (DPost base p d d' r wr)) :
    Calls Tryz.prog f args wr fun e w' => e = .returned r ∧ KpS base F w w' B K d' c := by
  obtain ⟨p, h1, h2, h3⟩ := h.dev
  refine (g p h1 h2 h3).mono ?_
  rintro e w' ⟨rfl, p', q1, q2, q3, q4⟩
  exact ⟨rfl, h.then hF h1 h3 q1 q2 q3 q4⟩
/-- Bytes of before stand. -/
theorem KpS.row {b o C n : Nat} {z : Nat → Nat} (h : KpS base F w wr B K d c) (hR : RowV w (.slice (some ⟨b, o, none⟩) n C) n z) (hb : ¬ F b) (hk : b ≠ K) : RowV wr (.slice (some ⟨b, o, none⟩) n C) n z :=
  hR.ch' h.ch fun x => x.elim hb hk
theorem KpS.write {b o C n t : Nat} {a : Int} {z : Nat → Nat} (h : KpS base F w wr B K d c) (hF : KpF base F w K) (hR : RowV w (.slice (some ⟨b, o, none⟩) n C) n z) (hb : ¬ F b) (hk : b ≠ K) (hb2 : b < w.heap.size) (hl : Lim d t) (ht : t ≤ 1000000) :
    Calls Tryz.prog 47 #[.pointer (some ⟨B, 0, none⟩), .int .i64 a, .slice (some ⟨b, o, none⟩) n C] wr fun e w' => e = .returned (.int .i64 (writeE d a n)) ∧ KpS base F w w' B K (writeD d a n z) c :=
  h.run hF fun p hp h2 h3 => by
    rw [← hp]
    exact write_any base p d a b o n C z wr h2 (h.row hR hb hk) (fun f => (h3 b f).elim hb fun e => by omega) (by have := hl.ops; omega) (by have := hl.W; omega) (fun a => by have := hl.drops a; omega)
theorem KpS.flush {t : Nat} (h : KpS base F w wr B K d c) (hF : KpF base F w K) (hl : Lim d t) (ht : t ≤ 1000000) :
    Calls Tryz.prog 48 #[.pointer (some ⟨B, 0, none⟩)] wr fun e w' => e = .returned (.int .i64 (flushE d)) ∧ KpS base F w w' B K (flushD d) c :=
  h.run hF fun p hp h2 h3 => by
    rw [← hp]
    exact flush_any base p d wr h2 (by have := hl.W; omega)
theorem KpS.read {t : Nat} {a : Int} (h : KpS base F w wr B K d c) (hF : KpF base F w K) (hl : Lim d t) (ht : t ≤ 1000000) :
    Calls Tryz.prog 94 #[.pointer (some ⟨B, 0, none⟩), .int .i64 a] wr fun e w' => ∃ A C, e = .returned (.tuple #[.slice A (readL d a) C, .int .i64 (readE d a)]) ∧ RowV w' (.slice A (readL d a) C) (readL d a) (readZ d a) ∧ KpS base F w w' B K (readD d a) c := by
  obtain ⟨p, h1, h2, h3⟩ := h.dev
  refine (h1 ▸ read_any base p d a wr h2 (by have := hl.ops; omega) (by have := hl.W; omega)).mono ?_
  rintro e w' ⟨v, rfl, e1, e2, e3⟩
  have hr := ownsRow_rowV e2 (by unfold readL; split <;> omega) (read_bytes h2 a)
  obtain ⟨A, C, rfl, _⟩ := id hr
  have hn : (readD d a).n = d.n := by unfold readD; split <;> rfl
  exact ⟨A, C, rfl, hr, h.then hF h1 h3 rfl e1 (fun i hi => Or.inl ((foot_n hn).1 hi)) e3⟩
/-- One more is written. -/
theorem KpS.more (h : KpS base F w wr B K d c) (hF : KpF base F w K) {x : Value} (hx : x = .int .i64 ((c + 1 : Nat) : Int)) : KpS base F w (wr.setCell ⟨K, 1, none⟩ x) B K d (c + 1) := by
  subst hx
  obtain ⟨p, h1, h2, h3⟩ := h.dev
  have k : Ch (fun i => i = K) wr (wr.setCell ⟨K, 1, none⟩ (.int .i64 ((c + 1 : Nat) : Int))) := Ch.setCell (S := fun i => i = K) (Ch.refl _ wr) (p := ⟨K, 1, none⟩) (Or.inl rfl) _
  refine ⟨⟨p, h1, h2.ch k fun i hi e => ?_, h3⟩, blk_set h.kp _, h.ch.via k (fun _ _ x => x) fun i _ x => Or.inr x⟩
  subst e
  have := hF.lt
  exact (h3 i hi).elim hF.off fun y => by omega
theorem KpS.put {X : Nat → Prop} {b o sb so sC : Nat} {P : PutP} (h : KpS base F w wr B K d c) (hp : PutIs w X b o sb so sC P) (hX : ∀ i, X i → ¬ F i ∧ i ≠ K) (hb : X b) :
    wr.cell? ⟨b, o, none⟩ = some (.int .i64 P.pl) ∧ wr.cell? ⟨b, o + 1, none⟩ = some (.slice (some ⟨sb, so, none⟩) P.n sC) :=
  ⟨h.ch.cell hp.c0 fun x => x.elim (hX b hb).1 (hX b hb).2, h.ch.cell hp.c1 fun x => x.elim (hX b hb).1 (hX b hb).2⟩
/-- The same, told of a later world: the blocks F and what is new by then. -/
def FN (F : Nat → Prop) (w wr : World) (i : Nat) : Prop := F i ∨ (w.heap.size ≤ i ∧ i < wr.heap.size)
theorem KpF.fn (hF : KpF base F w K) (k : w.heap.size ≤ wr.heap.size) : KpF base (FN F w wr) wr K :=
  ⟨Nat.le_trans hF.le k, fun i hi => hi.elim (fun x => ⟨(hF.low i x).1, Nat.lt_of_lt_of_le (hF.low i x).2 k⟩) fun x => ⟨Nat.le_trans hF.le x.1, x.2⟩, fun hi => hi.elim hF.off fun x => by have := hF.lt; omega, Nat.lt_of_lt_of_le hF.lt k⟩
theorem KpF.gr (hF : KpF base F w K) (k : w.heap.size ≤ w'.heap.size) : KpF base F w' K :=
  ⟨Nat.le_trans hF.le k, fun i hi => ⟨(hF.low i hi).1, Nat.lt_of_lt_of_le (hF.low i hi).2 k⟩, hF.off, Nat.lt_of_lt_of_le hF.lt k⟩
theorem KpS.now (h : KpS base F w wr B K d c) : KpS base (FN F w wr) wr wr B K d c := by
  obtain ⟨p, h1, h2, h3⟩ := h.dev
  exact ⟨⟨p, h1, h2, fun i hi => Or.inl ((h3 i hi).imp id fun x => ⟨x, (h2.foot hi).2⟩)⟩, h.kp, Ch.refl _ wr⟩
/-- Nothing old has turned, and nothing of it is the device's. -/
theorem KpS.reb (h : KpS base F w w B K d c) (k : Ch (fun _ => False) w w') : KpS base F w' w' B K d c := by
  obtain ⟨p, h1, h2, h3⟩ := h.dev
  exact ⟨⟨p, h1, h2.gr k, fun i hi => Or.inl ((h3 i hi).elim id fun x => by have := (h2.foot hi).2; omega)⟩, (k.block K (blk_lt h.kp) (fun f => f)).trans h.kp, Ch.refl _ w'⟩
theorem KpS.since {c' : Nat} (h : KpS base F w' wr B K d c') (k : Ch (fun _ => False) w w') : KpS base F w wr B K d c' := by
  obtain ⟨p, h1, h2, h3⟩ := h.dev
  exact ⟨⟨p, h1, h2, fun i hi => (h3 i hi).imp id fun x => Nat.le_trans k.size x⟩, h.kp, k.via h.ch (fun _ _ f => f.elim) fun _ _ x => x⟩
theorem KpS.from {c' : Nat} (h : KpS base F w wr B K d c) (q : KpS base (FN F w wr) wr w' B K d' c') : KpS base F w w' B K d' c' := by
  obtain ⟨p, h1, h2, h3⟩ := q.dev
  refine ⟨⟨p, h1, h2, fun i hi => (h3 i hi).elim (fun x => x.imp id fun y => y.1) fun x => Or.inr (Nat.le_trans h.ch.size x)⟩, q.kp, h.ch.via q.ch (fun _ _ x => x) fun i hi x => ?_⟩
  rcases x with (x | x) | x
  · exact Or.inl x
  · omega
  · exact Or.inr x
theorem KpS.lift {r : Value} {f : FuncId} {args : Array Value} {c' : Nat} (h : KpS base F w wr B K d c) (g : Calls Tryz.prog f args wr fun e w' => e = .returned r ∧ KpS base (FN F w wr) wr w' B K d' c') :
    Calls Tryz.prog f args wr fun e w' => e = .returned r ∧ KpS base F w w' B K d' c' :=
  g.mono fun _ _ ⟨he, q⟩ => ⟨he, h.from q⟩
/-- What the call has left, told of the world ahead of the keeper. -/
theorem KpS.post {w0 : World} {p : Ph} {d0 : Dev} {r : Value} (h : KpS base (Foot p d0) w wr p.B K d c) (k : Ch (fun _ => False) w0 w) (h0 : w0.heap.size ≤ K) : DPost base p d0 d r w0 (.returned r) wr := by
  obtain ⟨q, h1, h2, h3⟩ := h.dev
  exact ⟨rfl, q, h1, h2, fun i hi => (h3 i hi).imp id fun x => Nat.le_trans k.size x, k.via h.ch (fun _ _ f => f.elim) fun i hi x => x.elim id fun e => by omega⟩
end
end Go.Proofs.YtlbdopcchoklhaaGreat
namespace Go.Proofs.YtlbdopcchoklhaaGreat
open Go.RowKit
set_option linter.unusedVariables false
set_option maxRecDepth 100000
set_option linter.unusedSimpArgs false

/-! ### which sectors are good, plainly -/
/-- A sector tells a share of 228 bytes, of this place and number. -/
def shrB (vol no ad : Int) (l : Nat) (z : Nat → Nat) : Bool := opensB l z && (decide ((readB undef z).kind = 4) && (decide ((readB undef z).vol = vol) && (decide ((readB undef z).addr = ad) && (decide ((readB undef z).seq = no) && decide ((readB undef z).len = 228)))))
/-- How long what is left of each is; its bytes. -/
def lftL (vol no : Int) (at0 : Nat) (L : Nat → Nat) (Z : Nat → Nat → Nat) (r : Nat) : Nat := if shrB vol no ((at0 : Int) + (r : Int)) (L r) (Z r) then 228 else 0
def lftX (Z : Nat → Nat → Nat) (r c : Nat) : Nat := Z r (24 + c) % 256
theorem lftX_b (Z : Nat → Nat → Nat) : AllB (lftX Z) := fun r c => Nat.mod_lt _ (by omega)
theorem lft_fits {vol no : Int} {at0 : Nat} {L : Nat → Nat} {Z : Nat → Nat → Nat} (n : Nat) : Fits (lftL vol no at0 L Z) n := fun i hi h0 => by
  have get : ∀ j, 0 < lftL vol no at0 L Z j → lftL vol no at0 L Z j = 228 := fun j h => by
    unfold lftL at h ⊢
    split at h
    · rename_i e; rw [if_pos e]
    · omega
  exact ⟨by rw [get i h0]; omega, fun j hj hj0 => by rw [get i h0, get j hj0]⟩
theorem lft_long {vol no : Int} {at0 : Nat} {L : Nat → Nat} {Z : Nat → Nat → Nat} {n : Nat} (h : 0 < (idx (lftL vol no at0 L Z) n).length) : longZ (lftL vol no at0 L Z) n = 228 := by
  have h1 := wh_pos (L := lftL vol no at0 L Z) (n := n) (r := 0) h
  unfold longZ
  unfold lftL at h1 ⊢
  split at h1
  · rename_i e; rw [if_pos e]
  · omega
/-- Which arguments may be. -/
def stpB (vol : Int) (g : Ge) (a s no : Int) (l : Nat) : Bool := frsB g a s && (wordB vol && (wordB no && decide ((l : Int) = g.k + g.m)))
/-- What Stripe answers, of those that may be. -/
def StpPost (q k : Nat) (L : Nat → Nat) (D : Nat → Nat → Nat) (w : World) (e : Ending) (w' : World) : Prop :=
  (k ≤ (idx L q).length ∧ MatPost q 228 (sharesZ k D) w e w') ∨ ((idx L q).length < k ∧ ErrPost 22 w e w')

/-! ### rows that were found, in a list that was made -/
structure GotV (w0 w : World) (g n i : Nat) (L : Nat → Nat) (X : Nat → Nat → Nat) : Prop where
  row : ∃ F : Nat → Value, w.rowIs g /-t-/24 n F ∧ (∀ r, r < i → RowV w (F r) (L r) (X r)) ∧ ∀ r, i ≤ r → F r = .slice none 0 0
  lo : w0.heap.size ≤ g
  ch : Ch (fun _ => False) w0 w
section
variable {w0 w w' : World} {g n i : Nat} {L : Nat → Nat} {X : Nat → Nat → Nat}
theorem GotV.start (w0 : World) (n : Nat) (L : Nat → Nat) (X : Nat → Nat → Nat) : GotV w0 (w0.alloc (.cells (madeCells #[.slice none 0 0] n) /-t-/24)) w0.heap.size n 0 L X :=
  ⟨⟨fun _ => .slice none 0 0, World.rowIs_made w0 _ n _, fun r hr => absurd hr (Nat.not_lt_zero _), fun _ _ => rfl⟩, Nat.le_refl _, (Ch.refl _ _).alloc _ _⟩
theorem GotV.gr (h : GotV w0 w g n i L X) (k : Ch (fun _ => False) w w') : GotV w0 w' g n i L X := by
  obtain ⟨F, h1, h2, h3⟩ := h.row
  exact ⟨⟨F, k.rowIs h1 (fun f => f), fun r hr => (h2 r hr).gr k, h3⟩, h.lo, h.ch.trans k⟩
theorem GotV.skip (h : GotV w0 w g n i L X) (hL : L i = 0) : GotV w0 w g n (i + 1) L X := by
  obtain ⟨F, h1, h2, h3⟩ := h.row
  refine ⟨⟨F, h1, fun r hr => ?_, fun r hr => h3 r (by omega)⟩, h.lo, h.ch⟩
  by_cases e : r = i
  · subst e
    rw [h3 r (Nat.le_refl _), hL]
    exact nil_row _ _
  · exact h2 r (by omega)
theorem GotV.cell (h : GotV w0 w g n i L X) {j : Nat} (hj : j < n) : (∃ v, w.cell? ⟨g, j, none⟩ = some v) ∧ w.frozen? ⟨g, j, none⟩ = false := by
  obtain ⟨F, h1, _, _⟩ := h.row
  exact ⟨⟨_, h1.cell hj⟩, h1.frozen j⟩
theorem row_apart {v u : Value} {l : Nat} {z : Nat → Nat} {F : Nat → Value} (hr : RowV w v l z) (h1 : w.rowIs g /-t-/24 n F) (hF : ∀ j, j < n → ∃ A l C, F j = .slice A l C) : RowV (w.setCell ⟨g, i, none⟩ u) v l z := by
  obtain ⟨A, C, e, hl, h3⟩ := hr
  refine ⟨A, C, e, hl, fun h0 => ?_⟩
  obtain ⟨b, o, hA, hc⟩ := h3 h0
  have hne : g ≠ b := fun q => by
    subst q
    obtain ⟨cs, hb, hs, hcs⟩ := h1
    have h4 := (hc 0 h0).1
    have h5 : cs[o + 0]? = some (.int .u8 (z 0 : Int)) := by
      have e : w.cell? ⟨g, o + 0, none⟩ = cs[o + 0]? := by simp [World.cell?, hb]
      rw [← e]; exact h4
    have h6 : o + 0 < n := by rw [← hs]; exact (Array.getElem?_eq_some_iff.1 h5).1
    obtain ⟨A', l', C', h7⟩ := hF _ h6
    rw [hcs _ h6, h7] at h5
    cases h5
  exact ⟨b, o, hA, fun c hcl => ⟨by rw [World.cell?_setCell_other _ _ _ _ (fun q => hne (congrArg Addr.block q))]; exact (hc c hcl).1, (hc c hcl).2⟩⟩
theorem GotV.put (h : GotV w0 w g n i L X) (hi : i < n) {v : Value} (hv : RowV w v (L i) (X i)) : GotV w0 (w.setCell ⟨g, i, none⟩ v) g n (i + 1) L X := by
  obtain ⟨F, h1, h2, h3⟩ := h.row
  have hF : ∀ j, j < n → ∃ A l C, F j = .slice A l C := fun j _ => by
    by_cases q : j < i
    · obtain ⟨A, C, e, _⟩ := h2 j q
      exact ⟨_, _, _, e⟩
    · exact ⟨_, _, _, h3 j (by omega)⟩
  refine ⟨⟨fun r => if r = i then v else F r, (h1.set i v).congr fun j _ => ?_, fun r hr => ?_, fun r hr => ?_⟩, h.lo, h.ch.setCell (Or.inr h.lo) _⟩
  · rfl
  · show RowV _ (if r = i then v else F r) _ _
    by_cases e : r = i
    · subst e
      rw [if_pos rfl]
      exact row_apart hv h1 hF
    · rw [if_neg e]
      exact row_apart (h2 r (by omega)) h1 hF
  · show (if r = i then v else F r) = _
    rw [if_neg (by omega)]
    exact h3 r (by omega)
theorem GotV.mat (h : GotV w0 w g n n L X) (hn : n ≤ 140737488351232) : MatV w (.slice (some ⟨g, 0, none⟩) n n) n L X := by
  obtain ⟨F, h1, h2, _⟩ := h.row
  exact ⟨_, _, rfl, ⟨hn, Nat.le_refl _⟩, fun h0 => ⟨g, 0, rfl, fun r hr => ⟨F r, by rw [Nat.zero_add]; exact h1.cell hr, h2 r hr⟩⟩⟩
theorem GotV.base {w1 : World} (h : GotV w0 w g n i L X) (k : Ch (fun _ => False) w1 w0) : GotV w1 w g n i L X := ⟨h.row, Nat.le_trans k.size h.lo, k.trans h.ch⟩
end
theorem mat_at2 {w : World} {A : Option Addr} {n C r : Nat} {L : Nat → Nat} {Z : Nat → Nat → Nat} (h : MatV w (.slice A n C) n L Z) (hr : r < n) : ∃ b o A' C', A = some ⟨b, o, none⟩ ∧ w.cell? ⟨b, o + r, none⟩ = some (.slice A' (L r) C') ∧ RowV w (.slice A' (L r) C') (L r) (Z r) := by
  obtain ⟨A0, C0, e, _, h3⟩ := h
  injection e with e1 _ e2
  subst e1 e2
  obtain ⟨b, o, hA, hc⟩ := h3 (by omega)
  obtain ⟨x, hx, hrow⟩ := hc r hr
  obtain ⟨A', C', e, _⟩ := id hrow
  subst e
  exact ⟨b, o, A', C', hA, hx, hrow⟩
theorem varBk {b : Bk} (hb : ∃ A n C, b.V = .slice A n C) (w : World) : ∃ wz wx H, VarR w wz wx H (bkC bk0) (bkC b) 71 :=
  ⟨_, w.alloc (.cells (bkC b) 71), w.heap.size, rfl, rfl, run_storeVar_new (P := Tryz.prog) w _ _ _ (info_bk bk0) rfl (bkC_one hb), heap_alloc_new _ _, (Ch.refl _ w).alloc _ _⟩
/-! ### ErrArg -/
def fiveB (vol no ad : Int) (b : Bk) : Bool := decide (b.kind = 4) && (decide (b.vol = vol) && (decide (b.addr = ad) && (decide (b.seq = no) && decide (b.len = 228))))
theorem five_congr {vol no ad : Int} {b c : Bk} (h1 : b.kind = c.kind) (h2 : b.vol = c.vol) (h3 : b.addr = c.addr) (h4 : b.seq = c.seq) (h5 : b.len = c.len) : fiveB vol no ad b = fiveB vol no ad c := by
  unfold fiveB
  rw [h1, h2, h3, h4, h5]
/-- What is told of one sector. -/
theorem shr_open {vol no ad : Int} {l : Nat} {z : Nat → Nat} {V : Value} {bk : Bk} (hb : bk = openB l z V) : (openQ l z ≠ 0 ∧ shrB vol no ad l z = false) ∨ (openQ l z = 0 ∧ bk.z = (fun c => z (24 + c)) ∧ shrB vol no ad l z = fiveB vol no ad bk) := by
  cases ho : opensB l z with
  | false =>
    refine Or.inl ⟨?_, by unfold shrB; rw [ho]; exact Bool.false_and _⟩
    unfold openQ
    split
    · rw [ho]; decide
    · decide
  | true =>
    have e : bk = readB V z := by rw [hb]; unfold openB; rw [ho]; rfl
    refine Or.inr ⟨?_, by rw [e]; rfl, by unfold shrB; rw [ho, Bool.true_and, e]; exact five_congr (b := readB undef z) (c := readB V z) rfl rfl rfl rfl rfl⟩
    have hl : l = 256 := by
      unfold opensB at ho
      exact of_decide_eq_true (Bool.and_eq_true_iff.1 ho).1
    unfold openQ
    rw [if_pos hl, ho]
    rfl
end Go.Proofs.YtlbdopcchoklhaaGreat
