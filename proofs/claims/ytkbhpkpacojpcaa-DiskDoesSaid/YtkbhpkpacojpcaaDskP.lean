/-
  A device beside other blocks; what it is worth without faults.
-/
import Derived.Test.YtkbhpkpacojpcaaDskW
namespace Go.Proofs.Ytkbhpkpacojpcaa
open Go.RowKit
set_option linter.unusedVariables false

/-- Behind w0 there is a device at B, beside the blocks of X, and nothing old has turned. -/
structure OneX (w0 : World) (X : Nat → Prop) (B : Nat) (d : Dev) (w : World) : Prop where
  ch : Ch (fun _ => False) w0 w
  dev : ∃ p : Ph, p.B = B ∧ DevIs w0.heap.size w p d ∧ ∀ i, X i → ¬ Foot p d i
  lt : ∀ i, X i → i < w.heap.size
/-- An answer, and the device behind it; the blocks of X stand. -/
def OnePX (w0 : World) (X : Nat → Prop) (B : Nat) (d : Dev) (r : Value) (w : World) (e : Ending) (w' : World) : Prop := e = .returned r ∧ OneX w0 X B d w' ∧ Ch (fun i => w0.heap.size ≤ i ∧ ¬ X i) w w'
theorem OneX.gr {w0 w w' : World} {X : Nat → Prop} {B : Nat} {d : Dev} (h : OneX w0 X B d w) (k : Ch (fun _ => False) w w') : OneX w0 X B d w' := by
  obtain ⟨p, h2, h3, h4⟩ := h.dev
  exact ⟨h.ch.trans k, ⟨p, h2, h3.gr k, h4⟩, fun i hi => Nat.lt_of_lt_of_le (h.lt i hi) k.size⟩
theorem OneX.set {w0 w w' : World} {X S : Nat → Prop} {B : Nat} {d : Dev} (h : OneX w0 X B d w) (k : Ch S w w') (hS : ∀ i, S i → X i ∧ w0.heap.size ≤ i) : OneX w0 X B d w' := by
  obtain ⟨p, h2, h3, h4⟩ := h.dev
  exact ⟨h.ch.new (k.mono fun i _ hi => (hS i hi).2), ⟨p, h2, h3.ch k (fun i hi hs => h4 i (hS i hs).1 hi), h4⟩, fun i hi => Nat.lt_of_lt_of_le (h.lt i hi) k.size⟩
theorem OneX.run {w0 w w1 : World} {X : Nat → Prop} {B : Nat} {d d' : Dev} {r : Value} {F : FuncId} {args : Array Value} (h : OneX w0 X B d w) (hc : Ch (fun _ => False) w w1)
    (c : ∀ p : Ph, p.B = B → DevIs w0.heap.size w1 p d → (∀ i, w.heap.size ≤ i → ¬ Foot p d i) → Calls Try.prog F args w1 (DPost w0.heap.size p d d' r w1)) : Calls Try.prog F args w1 (OnePX w0 X B d' r w1) := by
  obtain ⟨p, hp, h3, h4⟩ := h.dev
  have h1 := h3.gr hc
  refine (c p hp h1 (fun i hi q => by have := (h3.foot q).2; omega)).mono ?_
  rintro e w' ⟨rfl, p', hp', h5, h6, h7⟩
  have h8 : Ch (fun i => w0.heap.size ≤ i ∧ ¬ X i) w1 w' := h7.mono fun i _ hi => ⟨(h1.foot hi).1, fun x => h4 i x hi⟩
  refine ⟨rfl, ⟨(h.ch.trans hc).new (h8.mono fun i _ hi => hi.1), ⟨p', hp'.trans hp, h5, fun i x q => ?_⟩, fun i hi => Nat.lt_of_lt_of_le (h.lt i hi) (Nat.le_trans hc.size h7.size)⟩, h8⟩
  rcases h6 i q with q | q
  · exact h4 i x q
  · have := h.lt i x
    have := hc.size
    omega
theorem OneX.fresh {w0 w w' : World} {X X' : Nat → Prop} {B : Nat} {d : Dev} (h : OneX w0 X B d w) (k : Ch (fun _ => False) w w') (hX : ∀ i, X' i → X i ∨ (w.heap.size ≤ i ∧ i < w'.heap.size)) : OneX w0 X' B d w' := by
  obtain ⟨p, h2, h3, h4⟩ := h.dev
  refine ⟨h.ch.trans k, ⟨p, h2, h3.gr k, fun i hi q => ?_⟩, fun i hi => ?_⟩
  · rcases hX i hi with x | x
    · exact h4 i x q
    · have := (h3.foot q).2; omega
  · rcases hX i hi with x | x
    · exact Nat.lt_of_lt_of_le (h.lt i x) k.size
    · exact x.2
section
variable {w0 w w1 : World} {X : Nat → Prop} {B : Nat} {d : Dev}
theorem OneX.write {a : Int} {b bb t : Nat} (h : OneX w0 X B d w) (h1 : w1.rowIs b /-t-/5 256 (fun i => .int .u8 (((fun _ => bb) i : Nat) : Int))) (hbb : bb < 256) (hb : w.heap.size ≤ b) (hc : Ch (fun _ => False) w w1) (hl : Lim d t) (ht : t ≤ 1000000) :
    Calls Try.prog 15 #[.pointer (some ⟨B, 0, none⟩), .int .i64 a, .slice (some ⟨b, 0, none⟩) 256 256] w1 (OnePX w0 X B (writeD d a 256 (fun _ => bb)) (.int .i64 (writeE d a 256)) w1) :=
  h.run hc fun p hp h3 hf => by
    subst hp
    exact write_any _ p d a b 0 256 256 (fun _ => bb) w1 h3 (rowIs_rowV h1 (by omega) (fun _ _ => hbb)) (hf b hb) (by have := hl.ops; omega) (by have := hl.W; omega) (fun a => by have := hl.drops a; omega)
theorem OneX.has {a : Int} {b t : Nat} (h : OneX w0 X B d w) (hb : b < 256) (hl : Lim d t) (ht : t ≤ 1000000) :
    Calls Try.prog 19 #[.pointer (some ⟨B, 0, none⟩), .int .i64 a, .int .u8 (b : Int)] w (OnePX w0 X B (readD d a) (.bool (hasP d a b)) w) :=
  h.run (Ch.refl _ w) fun p hp h3 _ => by
    subst hp
    exact lhas_any _ p d a b hb w h3 (by have := hl.ops; omega) (by have := hl.W; omega)
theorem OneX.flush {t : Nat} (h : OneX w0 X B d w) (hl : Lim d t) (ht : t ≤ 1000000) : Calls Try.prog 17 #[.pointer (some ⟨B, 0, none⟩)] w (OnePX w0 X B (flushD d) (.int .i64 (flushE d)) w) :=
  h.run (Ch.refl _ w) fun p hp h3 _ => by
    subst hp
    exact flush_any _ p d w h3 (by have := hl.W; omega)
theorem OneX.new (n : Nat) (w : World) (h : 1 ≤ n) (h2 : n ≤ 4096) (w0 : World) (hc : Ch (fun _ => False) w0 w) (hX : ∀ i, X i → i < w.heap.size) : Calls Try.prog 10 #[.int .i64 (n : Int)] w fun e w' => ∃ B, e = .returned (.tuple #[.pointer (some ⟨B, 0, none⟩), .int .i64 0]) ∧ OneX w0 X B (dev0 n) w' := by
  refine (new_any n w h h2).mono ?_
  rintro e w' ⟨p, h1, h3, h4⟩
  have hb := hc.size
  refine ⟨p.B, h1, hc.trans h4, ⟨p, rfl, ?_, fun i hi q => ?_⟩, fun i hi => Nat.lt_of_lt_of_le (hX i hi) h4.size⟩
  · refine ⟨h3.blk, h3.sec, ?_, h3.ms, h3.inj, Nat.le_trans hb h3.lowB, Nat.le_trans hb h3.lowG, fun a ha i hi => Nat.le_trans hb (h3.lowM a ha i hi), h3.byt, h3.wok, h3.mok, h3.nn, h3.lf⟩
    refine ⟨h3.wts.1, ?_⟩
    rcases h3.wts.2 with q | ⟨g, cap, cur, q1, q2, q3⟩
    · exact Or.inl q
    · exact Or.inr ⟨g, cap, cur, q1, Nat.le_trans hb q2, q3⟩
  · have := (h3.foot q).1
    have := hX i hi
    omega
end

/-! ### what is done, in plain words -/
theorem finAll_same (L : List Wt) : ∀ d : Dev, (finAll d L).ops = d.ops ∧ (finAll d L).drops = d.drops ∧ (finAll d L).miss = d.miss ∧ (finAll d L).dead = d.dead ∧ (finAll d L).armed = d.armed ∧ (finAll d L).left = d.left := by
  induction L with
  | nil => exact fun _ => ⟨rfl, rfl, rfl, rfl, rfl, rfl⟩
  | cons x r ih => exact fun d => ih (finD d x)
theorem snocInd {P : List Wt → Prop} (h0 : P []) (h1 : ∀ L x, P L → P (L ++ [x])) : ∀ L, P L := fun L => by
  have h : ∀ R : List Wt, P R.reverse := fun R => by
    induction R with
    | nil => exact h0
    | cons x r ih => rw [List.reverse_cons]; exact h1 _ _ ih
  have := h L.reverse
  rwa [List.reverse_reverse] at this
theorem finAll_has (d : Dev) (a : Nat) : ∀ (L : List Wt), (finAll d L).has a = (match lastW L a with | some x => x.z | none => d.has a) ∧ (finAll d L).lost a = ((lastW L a).isNone && d.lost a) := by
  refine snocInd ⟨rfl, rfl⟩ ?_
  · intro L x ih
    rw [finAll_snoc, lastW_snoc]
    show up (finAll d L).has x.pl x.z a = _ ∧ up (finAll d L).lost x.pl false a = _
    by_cases q : x.pl = a
    · rw [if_pos q, ← q, up_same, up_same]; exact ⟨rfl, rfl⟩
    · rw [if_neg q, up_other _ _ (fun e => q e.symm), up_other _ _ (fun e => q e.symm)]; exact ih
#print axioms finAll_has
end Go.Proofs.Ytkbhpkpacojpcaa
