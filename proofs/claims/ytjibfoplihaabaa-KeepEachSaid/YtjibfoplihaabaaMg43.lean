/-
  Several devices, apart from one another.
-/
import Derived.Test.YtjibfoplihaabaaMg42
import Derived.Test.YtjibfoplihaabaaMg19
import Derived.Test.YtjibfoplihaabaaMg12
namespace Go.Proofs.Ytjibfoplihaabaa
open Go.RowKit
set_option linter.unusedVariables false
set_option maxRecDepth 100000

/-- Behind w0 there are k devices, apart from one another and from the blocks of X; nothing old has turned. -/
structure Devs (w0 : World) (X : Nat → Prop) (k : Nat) (B : Nat → Nat) (d : Nat → Dev) (w : World) : Prop where
  ch : Ch (fun _ => False) w0 w
  dev : ∃ p : Nat → Ph, (∀ i, i < k → (p i).B = B i ∧ DevIs w0.heap.size w (p i) (d i) ∧ ∀ x, X x → ¬ Foot (p i) (d i) x) ∧ ∀ i j, i < k → j < k → i ≠ j → ∀ x, Foot (p i) (d i) x → ¬ Foot (p j) (d j) x
  lt : ∀ i, X i → i < w.heap.size
def DevsP (w0 : World) (X : Nat → Prop) (k : Nat) (B : Nat → Nat) (d : Nat → Dev) (r : Value) (w : World) (e : Ending) (w' : World) : Prop := e = .returned r ∧ Devs w0 X k B d w' ∧ Ch (fun i => w0.heap.size ≤ i ∧ ¬ X i) w w'
section
variable {w0 w w1 w' : World} {X : Nat → Prop} {k : Nat} {B : Nat → Nat} {d : Nat → Dev}
theorem Devs.gr (h : Devs w0 X k B d w) (c : Ch (fun _ => False) w w') : Devs w0 X k B d w' := by
  obtain ⟨p, h1, h2⟩ := h.dev
  exact ⟨h.ch.trans c, ⟨p, fun i hi => ⟨(h1 i hi).1, (h1 i hi).2.1.gr c, (h1 i hi).2.2⟩, h2⟩, fun i hi => Nat.lt_of_lt_of_le (h.lt i hi) c.size⟩
/-- One more row, or fewer, that nothing is to be done to. -/
theorem Devs.fresh {X' : Nat → Prop} (h : Devs w0 X k B d w) (c : Ch (fun _ => False) w w') (hX : ∀ i, X' i → X i ∨ (w.heap.size ≤ i ∧ i < w'.heap.size)) : Devs w0 X' k B d w' := by
  obtain ⟨p, h1, h2⟩ := h.dev
  refine ⟨h.ch.trans c, ⟨p, fun i hi => ⟨(h1 i hi).1, (h1 i hi).2.1.gr c, fun x hx q => ?_⟩, h2⟩, fun i hi => ?_⟩
  · rcases hX x hx with y | y
    · exact (h1 i hi).2.2 x y q
    · have := ((h1 i hi).2.1.foot q).2; omega
  · rcases hX i hi with x | x
    · exact Nat.lt_of_lt_of_le (h.lt i x) c.size
    · exact x.2
/-- One of them turns. -/
theorem Devs.step {i : Nat} (h : Devs w0 X k B d w) (hi : i < k) (hc : Ch (fun _ => False) w w1) : ∃ p : Ph, p.B = B i ∧ DevIs w0.heap.size w1 p (d i) ∧ (∀ x, X x → ¬ Foot p (d i) x) ∧ (∀ x, w.heap.size ≤ x → ¬ Foot p (d i) x) ∧
    ∀ p' d' w', p'.B = p.B → DevIs w0.heap.size w' p' d' → (∀ x, Foot p' d' x → Foot p (d i) x ∨ w1.heap.size ≤ x) → Ch (Foot p (d i)) w1 w' → (∀ X' : Nat → Prop, (∀ x, X' x → X x ∨ (w1.heap.size ≤ x ∧ x < w'.heap.size ∧ ¬ Foot p' d' x)) → Devs w0 X' k B (up d i d') w') ∧ Ch (fun x => w0.heap.size ≤ x ∧ ¬ X x) w1 w' := by
  obtain ⟨p, g1, h2⟩ := h.dev
  have h1 : ∀ i, i < k → (p i).B = B i ∧ DevIs w0.heap.size w1 (p i) (d i) ∧ ∀ x, X x → ¬ Foot (p i) (d i) x := fun i hi => ⟨(g1 i hi).1, (g1 i hi).2.1.gr hc, (g1 i hi).2.2⟩
  obtain ⟨e1, e2, e3⟩ := h1 i hi
  refine ⟨p i, e1, e2, e3, fun x hx f => by have := ((g1 i hi).2.1.foot f).2; omega, fun p' d' w' q1 q2 q3 q4 => ?_⟩
  have h8 : Ch (fun x => w0.heap.size ≤ x ∧ ¬ X x) w1 w' := q4.mono fun x _ hx => ⟨(e2.foot hx).1, fun y => e3 x y hx⟩
  refine ⟨fun X' hX' => ⟨(h.ch.trans hc).new (h8.mono fun x _ hx => hx.1), ⟨up p i p', fun j hj => ?_, fun j l hj hl hne x => ?_⟩, fun x hx => ?_⟩, h8⟩
  · by_cases q : j = i
    · rw [q, up_same, up_same]
      refine ⟨q1.trans e1, q2, fun x hx' f => ?_⟩
      rcases hX' x hx' with hx | hx
      · rcases q3 x f with y | y
        · exact e3 x hx y
        · have := h.lt x hx; have := hc.size; omega
      · exact hx.2.2 f
    · rw [up_other _ _ q, up_other _ _ q]
      refine ⟨(h1 j hj).1, (h1 j hj).2.1.ch q4 (fun x hx => h2 j i hj hi q x hx), fun x hx' f => ?_⟩
      rcases hX' x hx' with hx | hx
      · exact (h1 j hj).2.2 x hx f
      · have := ((h1 j hj).2.1.foot f).2; omega
  · by_cases q : j = i
    · have q' : l ≠ i := fun e => hne (q.trans e.symm)
      rw [q, up_same, up_same, up_other _ _ q', up_other _ _ q']
      intro f g
      rcases q3 x f with y | y
      · exact h2 i l hi hl (fun e => q' e.symm) x y g
      · have := ((h1 l hl).2.1.foot g).2; omega
    · by_cases q' : l = i
      · rw [q', up_same, up_same, up_other _ _ q, up_other _ _ q]
        intro f g
        rcases q3 x g with y | y
        · exact h2 j i hj hi q x f y
        · have := ((h1 j hj).2.1.foot f).2; omega
      · rw [up_other _ _ q, up_other _ _ q, up_other _ _ q', up_other _ _ q']
        exact h2 j l hj hl hne x
  · rcases hX' x hx with y | y
    · exact Nat.lt_of_lt_of_le (h.lt x y) (Nat.le_trans hc.size q4.size)
    · exact y.2.1
theorem Devs.run {i : Nat} {d' : Dev} {r : Value} {F : FuncId} {args : Array Value} (h : Devs w0 X k B d w) (hi : i < k) (hc : Ch (fun _ => False) w w1)
    (c : ∀ p : Ph, p.B = B i → DevIs w0.heap.size w1 p (d i) → (∀ x, w.heap.size ≤ x → ¬ Foot p (d i) x) → Calls Try.prog F args w1 (DPost w0.heap.size p (d i) d' r w1)) : Calls Try.prog F args w1 (DevsP w0 X k B (up d i d') r w1) := by
  obtain ⟨p, e1, e2, _, e4, e5⟩ := h.step hi hc
  refine (c p e1 e2 e4).mono ?_
  rintro e w' ⟨rfl, p', q1, q2, q3, q4⟩
  obtain ⟨a1, a2⟩ := e5 p' d' w' q1 q2 q3 q4
  exact ⟨rfl, a1 X (fun x hx => Or.inl hx), a2⟩
theorem Devs.write {i : Nat} {a : Int} {b bb t : Nat} (h : Devs w0 X k B d w) (hi : i < k) (h1 : w1.rowIs b /-t-/5 256 (fun i => .int .u8 (((fun _ => bb) i : Nat) : Int))) (hbb : bb < 256) (hb : w.heap.size ≤ b) (hc : Ch (fun _ => False) w w1) (hl : Lim (d i) t) (ht : t ≤ 1000000) :
    Calls Try.prog 54 #[.pointer (some ⟨B i, 0, none⟩), .int .i64 a, .slice (some ⟨b, 0, none⟩) 256 256] w1 (DevsP w0 X k B (up d i (writeD (d i) a 256 (fun _ => bb))) (.int .i64 (writeE (d i) a 256)) w1) :=
  h.run hi hc fun p hp h3 hf => by
    rw [← hp]
    exact write_any _ p (d i) a b 0 256 256 (fun _ => bb) w1 h3 (rowIs_rowV h1 (by omega) (fun _ _ => hbb)) (hf b hb) (by have := hl.ops; omega) (by have := hl.W; omega) (fun a => by have := hl.drops a; omega)
theorem Devs.flush {i t : Nat} (h : Devs w0 X k B d w) (hi : i < k) (hl : Lim (d i) t) (ht : t ≤ 1000000) : Calls Try.prog 55 #[.pointer (some ⟨B i, 0, none⟩)] w (DevsP w0 X k B (up d i (flushD (d i))) (.int .i64 (flushE (d i))) w) :=
  h.run hi (Ch.refl _ w) fun p hp h3 _ => by
    rw [← hp]
    exact flush_any _ p (d i) w h3 (by have := hl.W; omega)
theorem Devs.fault {i t : Nat} {f : Fa} (h : Devs w0 X k B d w) (hi : i < k) (hf : FaOk f) (hl : Lim (d i) t) (hm : LimM (d i) t) (ht : t ≤ 1000000) : Calls Try.prog 16 #[.pointer (some ⟨B i, 0, none⟩), .agg (faC f)] w (DevsP w0 X k B (up d i (faultD (d i) f)) (.int .i64 (faultE (d i) f)) w) :=
  h.run hi (Ch.refl _ w) fun p hp h3 _ => by
    rw [← hp]
    exact fault_any _ p (d i) f t w h3 hf hl hm ht
theorem Devs.crash {i t : Nat} {A : Option Addr} {n C : Nat} {q : Nat → Bool} (h : Devs w0 X k B d w) (hi : i < k) (hc : Ch (fun _ => False) w w1) (hl : Lim (d i) t) (ht : t ≤ 1000000) (hQ : RowQ w1 (.slice A n C) n q) (hF : ∀ b o, A = some ⟨b, o, none⟩ → 0 < n → b < w0.heap.size ∨ w.heap.size ≤ b) :
    Calls Try.prog 19 #[.pointer (some ⟨B i, 0, none⟩), .slice A n C] w1 (DevsP w0 X k B (up d i (crashD (d i) n q)) (.tuple #[]) w1) :=
  h.run hi hc fun p hp h3 hf => by
    rw [← hp]
    refine crash_any _ p (d i) A n C q w1 h3 (by have := hl.W; omega) hQ (fun b o e h0 g => ?_)
    rcases hF b o e h0 with x | x
    · have := (h3.foot g).1; omega
    · exact hf b x g
theorem Devs.read {i t : Nat} {a : Int} (h : Devs w0 X k B d w) (hi : i < k) (hl : Lim (d i) t) (ht : t ≤ 1000000) :
    Calls Try.prog 20 #[.pointer (some ⟨B i, 0, none⟩), .int .i64 a] w fun e w' => ∃ A C, e = .returned (.tuple #[.slice A (readL (d i) a) C, .int .i64 (readE (d i) a)]) ∧ RowV w' (.slice A (readL (d i) a) C) (readL (d i) a) (readZ (d i) a) ∧ (∀ b, (Value.slice A (readL (d i) a) C).ownBlock = some b → w.heap.size ≤ b ∧ b < w'.heap.size) ∧
      Devs w0 X k B (up d i (readD (d i) a)) w' ∧ Devs w0 (fun j => X j ∨ (Value.slice A (readL (d i) a) C).ownBlock = some j) k B (up d i (readD (d i) a)) w' ∧ Ch (fun x => w0.heap.size ≤ x ∧ ¬ X x) w w' := by
  obtain ⟨p, e1, e2, e3, e4, e5⟩ := h.step hi (Ch.refl _ w)
  rw [← e1]
  refine (read_any _ p (d i) a w e2 (by have := hl.ops; omega) (by have := hl.W; omega)).mono ?_
  rintro e w' ⟨v, rfl, q1, q2, q3⟩
  have hn : (readD (d i) a).n = (d i).n := by unfold readD; split <;> rfl
  obtain ⟨a1, a2⟩ := e5 p (readD (d i) a) w' rfl q1 (fun x hx => Or.inl ((foot_n hn).1 hx)) q3
  have hZ : Bytes (readL (d i) a) (readZ (d i) a) := fun c hc => by
    unfold readL at hc
    by_cases q : readE (d i) a = 0
    · rw [if_pos q] at hc
      by_cases q2 : openE (d i) a = 0
      · obtain ⟨_, k, rfl, hk⟩ := openE_ok q2
        unfold readZ
        rw [Int.toNat_natCast]
        cases hl : lastW (d i).W k with
        | none => exact e2.byt k c hk hc
        | some x => exact (e2.wok x (scan_mem hl).1).2 c hc
      · unfold readE at q; rw [if_neg q2] at q; exact (q2 q).elim
    · rw [if_neg q] at hc; omega
  have hr := ownsRow_rowV q2 (by unfold readL; split <;> omega) hZ
  obtain ⟨A, C, rfl, _⟩ := id hr
  have hb : ∀ b, (Value.slice A (readL (d i) a) C).ownBlock = some b → w.heap.size ≤ b ∧ b < w'.heap.size := fun b hb => by
    obtain ⟨g1, c, g2⟩ := own_at q2 hb
    exact ⟨g1, blk_lt g2⟩
  exact ⟨A, C, rfl, hr, hb, a1 X (fun x hx => Or.inl hx), a1 _ (fun x hx => hx.imp id (fun e => ⟨(hb x e).1, (hb x e).2, fun f => e4 x (hb x e).1 ((foot_n hn).1 f)⟩)), a2⟩
theorem Devs.copy {i t : Nat} (h : Devs w0 X k B d w) (hi : i < k) (hl : Lim (d i) t) (hm : LimM (d i) t) (ht : t ≤ 1000000) :
    Calls Try.prog 22 #[.pointer (some ⟨B i, 0, none⟩)] w fun e w' => ∃ b, e = .returned (.pointer (some ⟨b, 0, none⟩)) ∧ Devs w0 X (k + 1) (up B k b) (up d k (d i)) w' ∧ Ch (fun _ => False) w w' := by
  obtain ⟨p, h1, h2⟩ := h.dev
  obtain ⟨e1, e2, e3⟩ := h1 i hi
  rw [← e1]
  refine (copy_any _ (p i) (d i) w e2 (by have := hl.W; omega) (fun a _ => by have := hm a; omega)).mono ?_
  rintro e w' ⟨p2, rfl, q1, q2⟩
  have hbs := h.ch.size
  have q1' : DevIs w0.heap.size w' p2 (d i) := by
    refine ⟨q1.blk, q1.sec, ?_, q1.ms, q1.inj, Nat.le_trans hbs q1.lowB, Nat.le_trans hbs q1.lowG, fun a ha i hi => Nat.le_trans hbs (q1.lowM a ha i hi), q1.byt, q1.wok, q1.mok, q1.nn, q1.lf⟩
    refine ⟨q1.wts.1, ?_⟩
    rcases q1.wts.2 with q | ⟨g, cap, cur, q1, q2, q3⟩
    · exact Or.inl q
    · exact Or.inr ⟨g, cap, cur, q1, Nat.le_trans hbs q2, q3⟩
  have old : ∀ j, j < k → ∀ x, Foot (p j) (d j) x → ¬ Foot p2 (d i) x := fun j hj x f g => by
    have := ((h1 j hj).2.1.foot f).2
    have := (q1.foot g).1
    omega
  refine ⟨p2.B, rfl, ⟨h.ch.trans q2, ⟨up p k p2, fun j hj => ?_, fun j l hj hl hne x => ?_⟩, fun x hx => Nat.lt_of_lt_of_le (h.lt x hx) q2.size⟩, q2⟩
  · by_cases q : j = k
    · rw [q, up_same, up_same, up_same]
      exact ⟨rfl, q1', fun x hx f => by have := (q1.foot f).1; have := h.lt x hx; omega⟩
    · rw [up_other _ _ q, up_other _ _ q, up_other _ _ q]
      have hj' : j < k := by omega
      exact ⟨(h1 j hj').1, (h1 j hj').2.1.gr q2, (h1 j hj').2.2⟩
  · by_cases q : j = k
    · have q' : l ≠ k := fun e => hne (q.trans e.symm)
      rw [q, up_same, up_same, up_other _ _ q', up_other _ _ q']
      exact fun f g => old l (by omega) x g f
    · by_cases q' : l = k
      · rw [q', up_same, up_same, up_other _ _ q, up_other _ _ q]
        exact fun f g => old j (by omega) x f g
      · rw [up_other _ _ q, up_other _ _ q, up_other _ _ q', up_other _ _ q']
        exact h2 j l (by omega) (by omega) hne x
theorem Devs.newX (n : Nat) (w : World) (h : 1 ≤ n) (h2 : n ≤ 4096) (w0 : World) (hc : Ch (fun _ => False) w0 w) (hX : ∀ i, X i → i < w.heap.size) : Calls Try.prog 15 #[.int .i64 (n : Int)] w fun e w' => ∃ b, e = .returned (.tuple #[.pointer (some ⟨b, 0, none⟩), .int .i64 0]) ∧ Devs w0 X 1 (fun _ => b) (fun _ => dev0 n) w' ∧ Ch (fun _ => False) w w' := by
  refine (new_any n w h h2).mono ?_
  rintro e w' ⟨p, h1, h3, h4⟩
  have hb := hc.size
  refine ⟨p.B, h1, ⟨hc.trans h4, ⟨fun _ => p, fun _ _ => ⟨rfl, ?_, fun i hi q => ?_⟩, fun i j hi hj hne => (by omega)⟩, fun i hi => Nat.lt_of_lt_of_le (hX i hi) h4.size⟩, h4⟩
  · refine ⟨h3.blk, h3.sec, ?_, h3.ms, h3.inj, Nat.le_trans hb h3.lowB, Nat.le_trans hb h3.lowG, fun a ha i hi => Nat.le_trans hb (h3.lowM a ha i hi), h3.byt, h3.wok, h3.mok, h3.nn, h3.lf⟩
    refine ⟨h3.wts.1, ?_⟩
    rcases h3.wts.2 with q | ⟨g, cap, cur, q1, q2, q3⟩
    · exact Or.inl q
    · exact Or.inr ⟨g, cap, cur, q1, Nat.le_trans hb q2, q3⟩
  · have := (h3.foot q).1
    have := hX i hi
    omega
theorem Devs.new (n : Nat) (w : World) (h : 1 ≤ n) (h2 : n ≤ 4096) (w0 : World) (hc : Ch (fun _ => False) w0 w) : Calls Try.prog 15 #[.int .i64 (n : Int)] w fun e w' => ∃ b, e = .returned (.tuple #[.pointer (some ⟨b, 0, none⟩), .int .i64 0]) ∧ Devs w0 (fun _ => False) 1 (fun _ => b) (fun _ => dev0 n) w' := by
  refine (OneX.new (X := fun _ => False) n w h h2 w0 hc (fun _ f => f.elim)).mono ?_
  rintro e w' ⟨b, rfl, h3⟩
  obtain ⟨p, q1, q2, q3⟩ := h3.dev
  exact ⟨b, rfl, h3.ch, ⟨fun _ => p, fun _ _ => ⟨q1, q2, q3⟩, fun i j hi hj hne => (by omega)⟩, h3.lt⟩
/-- The same devices, said otherwise. -/
theorem Devs.congr {B' : Nat → Nat} {d' : Nat → Dev} (h : Devs w0 X k B d w) (e : ∀ i, i < k → B i = B' i ∧ d i = d' i) : Devs w0 X k B' d' w := by
  obtain ⟨p, h1, h2⟩ := h.dev
  refine ⟨h.ch, ⟨p, fun i hi => ?_, fun i j hi hj hne x => ?_⟩, h.lt⟩
  · rw [← (e i hi).1, ← (e i hi).2]; exact h1 i hi
  · rw [← (e i hi).2, ← (e j hj).2]; exact h2 i j hi hj hne x
/-! ### the same, said for a device by its name -/
section
variable {i b t : Nat} {E : Dev}
theorem Devs.flushN (h : Devs w0 X k B d w) (hi : i < k) (hB : B i = b) (hE : d i = E) (hl : Lim E t) (ht : t ≤ 1000000) : Calls Try.prog 55 #[.pointer (some ⟨b, 0, none⟩)] w (DevsP w0 X k B (up d i (flushD E)) (.int .i64 (flushE E)) w) := by
  subst hB hE
  exact h.flush hi hl ht
theorem Devs.faultN {f : Fa} (h : Devs w0 X k B d w) (hi : i < k) (hB : B i = b) (hE : d i = E) (hf : FaOk f) (hl : Lim E t) (hm : LimM E t) (ht : t ≤ 1000000) : Calls Try.prog 16 #[.pointer (some ⟨b, 0, none⟩), .agg (faC f)] w (DevsP w0 X k B (up d i (faultD E f)) (.int .i64 (faultE E f)) w) := by
  subst hB hE
  exact h.fault hi hf hl hm ht
theorem Devs.crashN {A : Option Addr} {n C : Nat} {q : Nat → Bool} (h : Devs w0 X k B d w) (hi : i < k) (hB : B i = b) (hE : d i = E) (hc : Ch (fun _ => False) w w1) (hl : Lim E t) (ht : t ≤ 1000000) (hQ : RowQ w1 (.slice A n C) n q) (hF : ∀ b o, A = some ⟨b, o, none⟩ → 0 < n → b < w0.heap.size ∨ w.heap.size ≤ b) :
    Calls Try.prog 19 #[.pointer (some ⟨b, 0, none⟩), .slice A n C] w1 (DevsP w0 X k B (up d i (crashD E n q)) (.tuple #[]) w1) := by
  subst hB hE
  exact h.crash hi hc hl ht hQ hF
theorem Devs.writeN {a : Int} {c bb : Nat} (h : Devs w0 X k B d w) (hi : i < k) (hB : B i = b) (hE : d i = E) (h1 : w1.rowIs c /-t-/5 256 (fun i => .int .u8 (((fun _ => bb) i : Nat) : Int))) (hbb : bb < 256) (hb : w.heap.size ≤ c) (hc : Ch (fun _ => False) w w1) (hl : Lim E t) (ht : t ≤ 1000000) :
    Calls Try.prog 54 #[.pointer (some ⟨b, 0, none⟩), .int .i64 a, .slice (some ⟨c, 0, none⟩) 256 256] w1 (DevsP w0 X k B (up d i (writeD E a 256 (fun _ => bb))) (.int .i64 (writeE E a 256)) w1) := by
  subst hB hE
  exact h.write hi h1 hbb hb hc hl ht
/-- What is read, and stands. -/
structure ReadR (w0 w w' : World) (X : Nat → Prop) (k : Nat) (B : Nat → Nat) (d : Nat → Dev) (i : Nat) (E : Dev) (a : Int) (A : Option Addr) (C : Nat) : Prop where
  row : RowV w' (.slice A (readL E a) C) (readL E a) (readZ E a)
  new : ∀ b, (Value.slice A (readL E a) C).ownBlock = some b → w.heap.size ≤ b ∧ b < w'.heap.size
  dev : Devs w0 X k B (up d i (readD E a)) w'
  devX : Devs w0 (fun j => X j ∨ (Value.slice A (readL E a) C).ownBlock = some j) k B (up d i (readD E a)) w'
  ch : Ch (fun x => w0.heap.size ≤ x ∧ ¬ X x) w w'
theorem Devs.readN {a : Int} (h : Devs w0 X k B d w) (hi : i < k) (hB : B i = b) (hE : d i = E) (hl : Lim E t) (ht : t ≤ 1000000) :
    Calls Try.prog 20 #[.pointer (some ⟨b, 0, none⟩), .int .i64 a] w fun e w' => ∃ A C, e = .returned (.tuple #[.slice A (readL E a) C, .int .i64 (readE E a)]) ∧ ReadR w0 w w' X k B d i E a A C := by
  subst hB hE
  refine (h.read hi hl ht).mono ?_
  rintro e w' ⟨A, C, rfl, h1, h2, h3, h4, h5⟩
  exact ⟨A, C, rfl, h1, h2, h3, h4, h5⟩
theorem Devs.copyN (h : Devs w0 X k B d w) (hi : i < k) (hB : B i = b) (hE : d i = E) (hl : Lim E t) (hm : LimM E t) (ht : t ≤ 1000000) :
    Calls Try.prog 22 #[.pointer (some ⟨b, 0, none⟩)] w fun e w' => ∃ b', e = .returned (.pointer (some ⟨b', 0, none⟩)) ∧ Devs w0 X (k + 1) (up B k b') (up d k E) w' ∧ Ch (fun _ => False) w w' := by
  subst hB hE
  exact h.copy hi hl hm ht
end
/-- A row that stands. -/
theorem RowV.keep {S : Nat → Prop} {v : Value} {l : Nat} {z : Nat → Nat} (h : RowV w v l z) (c : Ch S w w') (hS : ∀ b, v.ownBlock = some b → ¬ S b) : RowV w' v l z := by
  obtain ⟨A, C, rfl, h2, h3⟩ := h
  refine ⟨A, C, rfl, h2, fun hl => ?_⟩
  obtain ⟨b, o, rfl, hc⟩ := h3 hl
  exact ⟨b, o, rfl, fun j hj => ⟨c.cell (hc j hj).1 (hS b rfl), (hc j hj).2⟩⟩
end
#print axioms Devs.copy
#print axioms Devs.read
end Go.Proofs.Ytjibfoplihaabaa
