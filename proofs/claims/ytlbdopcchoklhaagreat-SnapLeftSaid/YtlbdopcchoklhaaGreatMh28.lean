/-
  A device of one's own: what a call leaves of it. (*disk.Disk).Fault whole. A device beside other blocks; what it is worth without faults. In plain words: what a call may do tto a device; what stays of a sector that nothing is done tto.
-/
import Derived.Test.YtlbdopcchoklhaaGreatMh27
import Derived.Test.YtlbdopcchoklhaaGreatMh23
import Derived.Test.YtlbdopcchoklhaaGreatMh25
import Derived.Test.YtlbdopcchoklhaaGreatMh26
namespace Go.Proofs.YtlbdopcchoklhaaGreat
open Go.RowKit
set_option linter.unusedVariables false
set_option maxRecDepth 100000

theorem DPost.told {base : Nat} {p : Ph} {d d' : Dev} {r : Value} {w0 w w' : World} {e : Ending} (h : DPost base p d d' r w e w') (h0 : DevIs base w p d) (hb : w0.heap.size ≤ base) (hc : Ch (fun _ => False) w0 w) :
    e = .returned r ∧ ∃ p', p'.B = p.B ∧ DevIs base w' p' d' ∧ Ch (fun _ => False) w0 w' := by
  obtain ⟨h1, p', h2, h3, _, h5⟩ := h
  exact ⟨h1, p', h2, h3, hc.new (h5.mono fun i _ hi => Nat.le_trans hb (h0.foot hi).1)⟩
/-- Has a sector, as it is read, that byte throughout? -/
def hasP (d : Dev) (a : Int) (b : Nat) : Bool := decide (readE d a = 0) && eqB (readL d a) 256 (readZ d a) (fun _ => b)
theorem eqB_yes {n m : Nat} {z y : Nat → Nat} (h : n = m) (k : ∀ c, c < n → z c = y c) : eqB n m z y = true := decide_eq_true ⟨h, k⟩
/-- Behind w0 there is a device at B, and nothing old has turned. -/
def One (w0 : World) (B : Nat) (d : Dev) (w : World) : Prop := Ch (fun _ => False) w0 w ∧ ∃ p : Ph, p.B = B ∧ DevIs w0.heap.size w p d
theorem One.ch {w0 w : World} {B : Nat} {d : Dev} (h : One w0 B d w) : Ch (fun _ => False) w0 w := h.1
theorem One.gr {w0 w w' : World} {B : Nat} {d : Dev} (h : One w0 B d w) (k : Ch (fun _ => False) w w') : One w0 B d w' := by
  obtain ⟨h1, p, h2, h3⟩ := h
  exact ⟨h1.trans k, p, h2, h3.gr k⟩
/-- An answer, and the device behind it. -/
def OneP (w0 : World) (B : Nat) (d : Dev) (r : Value) (e : Ending) (w' : World) : Prop := e = .returned r ∧ One w0 B d w'
theorem DPost.one {p : Ph} {d d' : Dev} {r : Value} {w0 w w' : World} {e : Ending} (h : DPost w0.heap.size p d d' r w e w') (h0 : DevIs w0.heap.size w p d) (hc : Ch (fun _ => False) w0 w) : OneP w0 p.B d' r e w' := by
  obtain ⟨h1, p', h2, h3, h4⟩ := h.told h0 (Nat.le_refl _) hc
  exact ⟨h1, h4, p', h2, h3⟩
/-- How much has happened tto it. -/
structure Lim (d : Dev) (t : Nat) : Prop where
  ops : d.ops ≤ t
  W : d.W.length ≤ t
  drops : ∀ a, d.drops a ≤ 1000 * t
section
variable {w0 w : World} {B : Nat} {d : Dev}
theorem One.write {w1 : World} {a : Int} {b bb t : Nat} (h : One w0 B d w) (h1 : w1.rowIs b /-t-/5 256 (fun i => .int .u8 (((fun _ => bb) i : Nat) : Int))) (hbb : bb < 256) (hb : w.heap.size ≤ b) (hc : Ch (fun _ => False) w w1) (hl : Lim d t) (ht : t ≤ 1000000) :
    Calls Tryz.prog 47 #[.pointer (some ⟨B, 0, none⟩), .int .i64 a, .slice (some ⟨b, 0, none⟩) 256 256] w1 (OneP w0 B (writeD d a 256 (fun _ => bb)) (.int .i64 (writeE d a 256))) := by
  obtain ⟨k, p, rfl, h3⟩ := h
  refine (write_any _ p d a b 0 256 256 (fun _ => bb) w1 (h3.gr hc) (rowIs_rowV h1 (by omega) (fun _ _ => hbb)) (fun q => by have := (h3.foot q).2; omega) (by have := hl.ops; omega) (by have := hl.W; omega) (fun a => by have := hl.drops a; omega)).mono ?_
  exact fun e w' hp => hp.one (h3.gr hc) (k.trans hc)
theorem One.flush {t : Nat} (h : One w0 B d w) (hl : Lim d t) (ht : t ≤ 1000000) : Calls Tryz.prog 48 #[.pointer (some ⟨B, 0, none⟩)] w (OneP w0 B (flushD d) (.int .i64 (flushE d))) := by
  obtain ⟨k, p, rfl, h3⟩ := h
  exact (flush_any _ p d w h3 (by have := hl.W; omega)).mono fun e w' hp => hp.one h3 k
theorem One.drop {t : Nat} {f : Fa} (h : One w0 B d w) (hk : f.kind = 4) (hf : FaOk f) (hp : hasB d f.pl = true) (hl : Lim d t) (ht : t ≤ 1000000) : Calls Tryz.prog 21 #[.pointer (some ⟨B, 0, none⟩), .agg (faC f)] w (OneP w0 B (dropD d f) (.int .i64 (dropE f))) := by
  obtain ⟨k, p, rfl, h3⟩ := h
  exact (fault_drop _ p d (dropD d f) (.int .i64 (dropE f)) f w h3 hp hk (fun w' h' => drop_any _ p d f w' h' hf (of_decide_eq_true hp) (fun a => by have := hl.drops a; omega))).mono fun e w' hp => hp.one h3 k
theorem One.len (h : One w0 B d w) : Calls Tryz.prog 88 #[.pointer (some ⟨B, 0, none⟩)] w fun e w' => e = .returned (.int .i64 (d.n : Int)) ∧ w = w' := by
  obtain ⟨k, p, rfl, h3⟩ := h
  exact len_any _ p d w h3
theorem One.new (n : Nat) (w : World) (h : 1 ≤ n) (h2 : n ≤ 4096) (w0 : World) (hc : Ch (fun _ => False) w0 w) : Calls Tryz.prog 46 #[.int .i64 (n : Int)] w fun e w' => ∃ B, e = .returned (.tuple #[.pointer (some ⟨B, 0, none⟩), .int .i64 0]) ∧ One w0 B (dev0 n) w' := by
  refine (new_any n w h h2).mono ?_
  rintro e w' ⟨p, h1, h3, h4⟩
  refine ⟨p.B, h1, hc.trans h4, p, rfl, ?_⟩
  have hb := hc.size
  refine ⟨h3.blk, h3.sec, ?_, h3.ms, h3.inj, Nat.le_trans hb h3.lowB, Nat.le_trans hb h3.lowG, fun a ha i hi => Nat.le_trans hb (h3.lowM a ha i hi), h3.byt, h3.wok, h3.mok, h3.nn, h3.lf⟩
  refine ⟨h3.wts.1, ?_⟩
  rcases h3.wts.2 with q | ⟨g, cap, cur, q1, q2, q3⟩
  · exact Or.inl q
  · exact Or.inr ⟨g, cap, cur, q1, Nat.le_trans hb q2, q3⟩
end
end Go.Proofs.YtlbdopcchoklhaaGreat
namespace Go.Proofs.YtlbdopcchoklhaaGreat
open Go.RowKit
set_option linter.unusedVariables false
set_option maxRecDepth 100000

def LimM (d : Dev) (t : Nat) : Prop := ∀ a, (d.miss a).length ≤ t
def faultE (d : Dev) (f : Fa) : Int := if hasB d f.pl then (if f.kind = 1 then rotE f else if f.kind = 2 then 0 else if f.kind = 3 then 0 else if f.kind = 4 then dropE f else if f.kind = 5 then missE d f else 1) else 3
def faultD (d : Dev) (f : Fa) : Dev := if hasB d f.pl then (if f.kind = 1 then rotD d f else if f.kind = 2 then blankD d f.pl.toNat else if f.kind = 3 then loseD d f.pl.toNat else if f.kind = 4 then dropD d f else if f.kind = 5 then missD d f else d) else d
theorem fault_any (base : Nat) (p : Ph) (d : Dev) (f : Fa) (t : Nat) (w : World) (h : DevIs base w p d) (hf : FaOk f) (hl : Lim d t) (hm : LimM d t) (ht : t ≤ 1000000) :
    Calls Tryz.prog 21 #[.pointer (some ⟨p.B, 0, none⟩), .agg (faC f)] w (DPost base p d (faultD d f) (.int .i64 (faultE d f)) w) := by
  unfold faultE faultD
  cases hb : hasB d f.pl
  · exact fault_none base p d f w h hb
  · have hp := of_decide_eq_true hb
    have hW : d.W.length ≤ 1048576 := by have := hl.W; omega
    rw [if_pos rfl, if_pos rfl]
    by_cases k1 : f.kind = 1
    · rw [if_pos k1, if_pos k1]; exact fault_rot base p d _ _ f w h hb k1 (fun w' h' => rot_any base p d f w' h' hf hW hp)
    rw [if_neg k1, if_neg k1]
    by_cases k2 : f.kind = 2
    · rw [if_pos k2, if_pos k2]; exact fault_blank base p d _ _ f w h hb k2 (fun w' h' => blank_any base p d f w' h' hW hp)
    rw [if_neg k2, if_neg k2]
    by_cases k3 : f.kind = 3
    · rw [if_pos k3, if_pos k3]; exact fault_lose base p d _ _ f w h hb k3 (fun w' h' => lose_any base p d f w' h' hW hp)
    rw [if_neg k3, if_neg k3]
    by_cases k4 : f.kind = 4
    · rw [if_pos k4, if_pos k4]; exact fault_drop base p d _ _ f w h hb k4 (fun w' h' => drop_any base p d f w' h' hf hp (fun a => by have := hl.drops a; omega))
    rw [if_neg k4, if_neg k4]
    by_cases k5 : f.kind = 5
    · rw [if_pos k5, if_pos k5]; exact fault_miss base p d _ _ f w h hb k5 (fun w' h' => miss_any base p d f w' h' hp (by have := hm f.pl.toNat; omega))
    rw [if_neg k5, if_neg k5]
    exact fault_arg base p d f w h hb (fun q => by omega)
end Go.Proofs.YtlbdopcchoklhaaGreat
namespace Go.Proofs.YtlbdopcchoklhaaGreat
open Go.RowKit
set_option linter.unusedVariables false
set_option maxRecDepth 100000

/-- Behind w0 there is a device at B, beside the blocks of X, and nothing old has turned. -/
structure OneX (w0 : World) (X : Nat → Prop) (B : Nat) (d : Dev) (w : World) : Prop where
  ch : Ch (fun _ => False) w0 w
  dev : ∃ p : Ph, p.B = B ∧ DevIs w0.heap.size w p d ∧ ∀ i, X i → ¬ Foot p d i
  lt : ∀ i, X i → i < w.heap.size
/-- An answer, and the device behind it; the blocks of X stand. -/
def OnePX (w0 : World) (X : Nat → Prop) (B : Nat) (d : Dev) (r : Value) (w : World) (e : Ending) (w' : World) : Prop := e = .returned r ∧ OneX w0 X B d w' ∧ Ch (fun i => w0.heap.size ≤ i ∧ ¬ X i) w w'
theorem OneX.gr {w0 w w' : World} {X : Nat → Prop} {B : Nat} {d : Dev} (h : OneX w0 X B d w) (k : Ch (fun _ => False) w w') : OneX w0 X B d w' := by
  obtain ⟨p, h2, h3, h4⟩ := h.dev
  exact ⟨h.ch.trans k, ⟨p, h2, h3.gr k, h4⟩, fun i hi => Nat.lt_of_lt_of_le (h.lt i hi) k.size⟩
theorem OneX.set {w0 w w' : World} {X S : Nat → Prop} {B : Nat} {d : Dev} (h : OneX w0 X B d w) (k : Ch S w w') (hS : ∀ i, S i → X i ∧ w0.heap.size ≤ i) : OneX w0 X B d w' := by
  obtain ⟨p, h2, h3, h4⟩ := h.dev
  exact ⟨h.ch.new (k.mono fun i _ hi => (hS i hi).2), ⟨p, h2, h3.ch k (fun i hi hs => h4 i (hS i hs).1 hi), h4⟩, fun i hi => Nat.lt_of_lt_of_le (h.lt i hi) k.size⟩
theorem OneX.run {w0 w w1 : World} {X : Nat → Prop} {B : Nat} {d d' : Dev} {r : Value} {F : FuncId} {args : Array Value} (h : OneX w0 X B d w) (hc : Ch (fun _ => False) w w1)
    (c : ∀ p : Ph, p.B = B → DevIs w0.heap.size w1 p d → (∀ i, w.heap.size ≤ i → ¬ Foot p d i) → Calls Tryz.prog F args w1 (DPost w0.heap.size p d d' r w1)) : Calls Tryz.prog F args w1 (OnePX w0 X B d' r w1) := by
  obtain ⟨p, hp, h3, h4⟩ := h.dev
  have h1 := h3.gr hc
  refine (c p hp h1 (fun i hi q => by have := (h3.foot q).2; omega)).mono ?_
  rintro e w' ⟨rfl, p', hp', h5, h6, h7⟩
  have h8 : Ch (fun i => w0.heap.size ≤ i ∧ ¬ X i) w1 w' := h7.mono fun i _ hi => ⟨(h1.foot hi).1, fun x => h4 i x hi⟩
  refine ⟨rfl, ⟨(h.ch.trans hc).new (h8.mono fun i _ hi => hi.1), ⟨p', hp'.trans hp, h5, fun i x q => ?_⟩, fun i hi => Nat.lt_of_lt_of_le (h.lt i hi) (Nat.le_trans hc.size h7.size)⟩, h8⟩
  rcases h6 i q with q | q
  · exact h4 i x q
  · have := h.lt i x
    have := hc.size
    omega
theorem OneX.fresh {w0 w w' : World} {X X' : Nat → Prop} {B : Nat} {d : Dev} (h : OneX w0 X B d w) (k : Ch (fun _ => False) w w') (hX : ∀ i, X' i → X i ∨ (w.heap.size ≤ i ∧ i < w'.heap.size)) : OneX w0 X' B d w' := by
  obtain ⟨p, h2, h3, h4⟩ := h.dev
  refine ⟨h.ch.trans k, ⟨p, h2, h3.gr k, fun i hi q => ?_⟩, fun i hi => ?_⟩
  · rcases hX i hi with x | x
    · exact h4 i x q
    · have := (h3.foot q).2; omega
  · rcases hX i hi with x | x
    · exact Nat.lt_of_lt_of_le (h.lt i x) k.size
    · exact x.2
section
variable {w0 w w1 : World} {X : Nat → Prop} {B : Nat} {d : Dev}
theorem OneX.write {a : Int} {b bb t : Nat} (h : OneX w0 X B d w) (h1 : w1.rowIs b /-t-/5 256 (fun i => .int .u8 (((fun _ => bb) i : Nat) : Int))) (hbb : bb < 256) (hb : w.heap.size ≤ b) (hc : Ch (fun _ => False) w w1) (hl : Lim d t) (ht : t ≤ 1000000) :
    Calls Tryz.prog 47 #[.pointer (some ⟨B, 0, none⟩), .int .i64 a, .slice (some ⟨b, 0, none⟩) 256 256] w1 (OnePX w0 X B (writeD d a 256 (fun _ => bb)) (.int .i64 (writeE d a 256)) w1) :=
  h.run hc fun p hp h3 hf => by
    subst hp
    exact write_any _ p d a b 0 256 256 (fun _ => bb) w1 h3 (rowIs_rowV h1 (by omega) (fun _ _ => hbb)) (hf b hb) (by have := hl.ops; omega) (by have := hl.W; omega) (fun a => by have := hl.drops a; omega)
theorem OneX.flush {t : Nat} (h : OneX w0 X B d w) (hl : Lim d t) (ht : t ≤ 1000000) : Calls Tryz.prog 48 #[.pointer (some ⟨B, 0, none⟩)] w (OnePX w0 X B (flushD d) (.int .i64 (flushE d)) w) :=
  h.run (Ch.refl _ w) fun p hp h3 _ => by
    subst hp
    exact flush_any _ p d w h3 (by have := hl.W; omega)
theorem OneX.new (n : Nat) (w : World) (h : 1 ≤ n) (h2 : n ≤ 4096) (w0 : World) (hc : Ch (fun _ => False) w0 w) (hX : ∀ i, X i → i < w.heap.size) : Calls Tryz.prog 46 #[.int .i64 (n : Int)] w fun e w' => ∃ B, e = .returned (.tuple #[.pointer (some ⟨B, 0, none⟩), .int .i64 0]) ∧ OneX w0 X B (dev0 n) w' := by
  refine (new_any n w h h2).mono ?_
  rintro e w' ⟨p, h1, h3, h4⟩
  have hb := hc.size
  refine ⟨p.B, h1, hc.trans h4, ⟨p, rfl, ?_, fun i hi q => ?_⟩, fun i hi => Nat.lt_of_lt_of_le (hX i hi) h4.size⟩
  · refine ⟨h3.blk, h3.sec, ?_, h3.ms, h3.inj, Nat.le_trans hb h3.lowB, Nat.le_trans hb h3.lowG, fun a ha i hi => Nat.le_trans hb (h3.lowM a ha i hi), h3.byt, h3.wok, h3.mok, h3.nn, h3.lf⟩
    refine ⟨h3.wts.1, ?_⟩
    rcases h3.wts.2 with q | ⟨g, cap, cur, q1, q2, q3⟩
    · exact Or.inl q
    · exact Or.inr ⟨g, cap, cur, q1, Nat.le_trans hb q2, q3⟩
  · have := (h3.foot q).1
    have := hX i hi
    omega
end

/-! ### what is done, in plain words -/
theorem finAll_same (L : List Wt) : ∀ d : Dev, (finAll d L).ops = d.ops ∧ (finAll d L).drops = d.drops ∧ (finAll d L).miss = d.miss ∧ (finAll d L).dead = d.dead ∧ (finAll d L).armed = d.armed ∧ (finAll d L).left = d.left := by
  induction L with
  | nil => exact fun _ => ⟨rfl, rfl, rfl, rfl, rfl, rfl⟩
  | cons x r ih => exact fun d => ih (finD d x)
theorem snocInd {P : List Wt → Prop} (h0 : P []) (h1 : ∀ L x, P L → P (L ++ [x])) : ∀ L, P L := fun L => by
  have h : ∀ R : List Wt, P R.reverse := fun R => by
    induction R with
    | nil => exact h0
    | cons x r ih => rw [List.reverse_cons]; exact h1 _ _ ih
  have := h L.reverse
  rwa [List.reverse_reverse] at this
theorem finAll_has (d : Dev) (a : Nat) : ∀ (L : List Wt), (finAll d L).has a = (match lastW L a with | some x => x.z | none => d.has a) ∧ (finAll d L).lost a = ((lastW L a).isNone && d.lost a) := by
  refine snocInd ⟨rfl, rfl⟩ ?_
  · intro L x ih
    rw [finAll_snoc, lastW_snoc]
    show up (finAll d L).has x.pl x.z a = _ ∧ up (finAll d L).lost x.pl false a = _
    by_cases q : x.pl = a
    · rw [if_pos q, ← q, up_same, up_same]; exact ⟨rfl, rfl⟩
    · rw [if_neg q, up_other _ _ (fun e => q e.symm), up_other _ _ (fun e => q e.symm)]; exact ih
end Go.Proofs.YtlbdopcchoklhaaGreat
namespace Go.Proofs.YtlbdopcchoklhaaGreat
open Go.RowKit
set_option linter.unusedVariables false
set_option maxRecDepth 100000

/-! ### how much a call does -/
structure Near (d d' : Dev) : Prop where
  n : d'.n = d.n
  ops : d'.ops ≤ d.ops + 1
  W : d'.W.length ≤ d.W.length + 1
  drops : ∀ a, d'.drops a ≤ d.drops a + 1000
  miss : ∀ a, (d'.miss a).length ≤ (d.miss a).length + 1
theorem Near.lim {d d' : Dev} {t : Nat} (h : Near d d') (hl : Lim d t) (hm : LimM d t) : Lim d' (t + 1) ∧ LimM d' (t + 1) :=
  ⟨⟨Nat.le_trans h.ops (by have := hl.ops; omega), Nat.le_trans h.W (by have := hl.W; omega), fun a => by have := h.drops a; have := hl.drops a; omega⟩, fun a => by have := h.miss a; have := hm a; omega⟩
theorem Near.refl (d : Dev) : Near d d := ⟨rfl, by omega, by omega, fun _ => by omega, fun _ => by omega⟩
theorem diesD_miss (d : Dev) : (diesD d).miss = d.miss ∧ (diesD d).has = d.has ∧ (diesD d).lost = d.lost := by
  unfold diesD
  split
  · split <;> exact ⟨rfl, rfl, rfl⟩
  · exact ⟨rfl, rfl, rfl⟩
theorem aimD_near (d : Dev) (a : Nat) : (aimD d a).ops = d.ops ∧ (∀ k, (aimD d a).drops k ≤ d.drops k) ∧ (∀ k, (aimD d a).miss k = d.miss k ∨ ∃ t, d.miss k = t :: (aimD d a).miss k) ∧ (aimD d a).has = d.has ∧ (aimD d a).lost = d.lost := by
  unfold aimD
  split
  · refine ⟨rfl, fun k => ?_, fun k => Or.inl rfl, rfl, rfl⟩
    show up d.drops a (d.drops a - 1) k ≤ _
    unfold up
    split
    · rename_i h; rw [h]; omega
    · omega
  · split
    · exact ⟨rfl, fun _ => Nat.le_refl _, fun _ => Or.inl rfl, rfl, rfl⟩
    · rename_i t r e
      refine ⟨rfl, fun _ => Nat.le_refl _, fun k => ?_, rfl, rfl⟩
      show up d.miss a r k = _ ∨ ∃ t, d.miss k = t :: up d.miss a r k
      by_cases q : k = a
      · rw [q, up_same]; exact Or.inr ⟨t, e⟩
      · rw [up_other _ _ q]; exact Or.inl rfl
theorem near_write (d : Dev) (a : Int) (n : Nat) (z : Nat → Nat) : Near d (writeD d a n z) := by
  unfold writeD
  obtain ⟨e1, e2, e3, e4⟩ := diesD_more d
  obtain ⟨m1, _, _⟩ := diesD_miss d
  split
  · split
    · exact ⟨e1, by rw [e3]; omega, by rw [e2]; omega, fun a => by rw [e4]; omega, fun a => by rw [m1]; omega⟩
    · have hw : (wr1 d).n = d.n ∧ (wr1 d).ops = d.ops + 1 ∧ (wr1 d).W = d.W ∧ (wr1 d).drops = d.drops ∧ (wr1 d).miss = d.miss := ⟨e1, rfl, e2, e4, m1⟩
      obtain ⟨a1, a2, a3, _, _⟩ := aimD_near (wr1 d) a.toNat
      obtain ⟨b1, b2⟩ := aimD_nW (wr1 d) a.toNat
      have hm : ∀ k, ((aimD (wr1 d) a.toNat).miss k).length ≤ (d.miss k).length + 1 := fun k => by
        rcases a3 k with q | ⟨t, q⟩
        · rw [q, hw.2.2.2.2]; omega
        · rw [hw.2.2.2.2] at q; rw [q, List.length_cons]; omega
      have hd : ∀ k, (aimD (wr1 d) a.toNat).drops k ≤ d.drops k + 1000 := fun k => by have := a2 k; rw [hw.2.2.2.1] at this; omega
      split
      · exact ⟨b1.trans hw.1, by show (aimD (wr1 d) a.toNat).ops ≤ _; rw [a1, hw.2.1]; omega, by simp, hd, hm⟩
      · exact ⟨b1.trans hw.1, by rw [a1, hw.2.1]; omega, by rw [b2, hw.2.2.1]; omega, hd, hm⟩
  · exact Near.refl d
theorem near_flush (d : Dev) : Near d (flushD d) := by
  unfold flushD
  obtain ⟨e1, e2, e3, e4⟩ := diesD_more d
  obtain ⟨m1, _, _⟩ := diesD_miss d
  split
  · exact Near.refl d
  · split
    · exact ⟨e1, by rw [e3]; omega, by rw [e2]; omega, fun a => by rw [e4]; omega, fun a => by rw [m1]; omega⟩
    · obtain ⟨s1, s2, s3, _⟩ := finAll_same d.W (diesD d)
      exact ⟨(finAll_n _ _).trans e1, by show (finAll (diesD d) d.W).ops ≤ _; rw [s1, e3]; omega, by show 0 ≤ _; omega, fun a => by show (finAll (diesD d) d.W).drops a ≤ _; rw [s2, e4]; omega, fun a => by show ((finAll (diesD d) d.W).miss a).length ≤ _; rw [s3, m1]; omega⟩
theorem near_settle (d : Dev) (k : Nat) : (settleD d k).n = d.n ∧ (settleD d k).ops = d.ops ∧ (settleD d k).W.length ≤ d.W.length ∧ (settleD d k).drops = d.drops ∧ (settleD d k).miss = d.miss := by
  obtain ⟨s1, s2, s3, _⟩ := finAll_same (ofS d.W k) d
  exact ⟨finAll_n _ _, s1, offS_len d.W k, s2, s3⟩
theorem near_of {d d' : Dev} (h : d'.n = d.n ∧ d'.ops = d.ops ∧ d'.W.length ≤ d.W.length ∧ d'.drops = d.drops ∧ d'.miss = d.miss) : Near d d' :=
  ⟨h.1, by rw [h.2.1]; omega, by have := h.2.2.1; omega, fun a => by rw [h.2.2.2.1]; omega, fun a => by rw [h.2.2.2.2]; omega⟩
theorem near_fault (d : Dev) (f : Fa) : Near d (faultD d f) := by
  unfold faultD
  split
  · split
    · unfold rotD
      split
      · exact Near.refl d
      · exact near_of (d' := rotAt (settleD d f.pl.toNat) f.pl.toNat f.off.toNat (maskOf f) (min 4 (256 - f.off.toNat))) (near_settle d f.pl.toNat)
    · split
      · exact near_of (d' := blankD d f.pl.toNat) (near_settle d f.pl.toNat)
      · split
        · exact near_of (d' := loseD d f.pl.toNat) (near_settle d f.pl.toNat)
        · split
          · unfold dropD
            split
            · exact Near.refl d
            · rename_i hn
              refine ⟨rfl, by show d.ops ≤ _; omega, by show d.W.length ≤ _; omega, fun a => ?_, fun a => by show (d.miss a).length ≤ _; omega⟩
              show up d.drops _ _ a ≤ _
              unfold up
              split
              · rename_i h; rw [h]; omega
              · omega
          · split
            · unfold missD
              split
              · refine ⟨rfl, by show d.ops ≤ _; omega, by show d.W.length ≤ _; omega, fun a => by show d.drops a ≤ _; omega, fun a => ?_⟩
                show (up d.miss _ _ a).length ≤ _
                unfold up
                split
                · rename_i h; rw [h]; simp
                · omega
              · exact Near.refl d
            · exact Near.refl d
  · exact Near.refl d
/-! ### what stays -/
structure Keep (d : Dev) (a b : Nat) : Prop where
  n : d.n = 20
  W : ∀ x ∈ d.W, x.pl ≠ a
  miss : ∀ k y, y ∈ d.miss k → y ≠ a
  has : ∀ c, c < 256 → d.has a c = b
  lost : d.lost a = false
theorem Keep.of {d d' : Dev} {a b : Nat} (h : Keep d a b) (hn : d'.n = d.n) (hW : ∀ x ∈ d'.W, x ∈ d.W) (hm : ∀ k y, y ∈ d'.miss k → y ∈ d.miss k) (hh : d'.has a = d.has a) (hl : d'.lost a = d.lost a) : Keep d' a b :=
  ⟨hn.trans h.n, fun x hx => h.W x (hW x hx), fun k y hy => h.miss k y (hm k y hy), fun c hc => by rw [hh]; exact h.has c hc, hl.trans h.lost⟩
end Go.Proofs.YtlbdopcchoklhaaGreat
