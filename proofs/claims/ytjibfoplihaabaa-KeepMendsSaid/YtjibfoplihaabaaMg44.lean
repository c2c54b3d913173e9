/-
  What keep is held to; a device of one's own, alone, beside the document's, or beside its copy, behind calls of keep. keep, held to its contract. law09.alike, walked: has a device what the document's has?.
-/
import Derived.Test.YtjibfoplihaabaaMg41
import Derived.Test.YtjibfoplihaabaaMg43
import Derived.Test.YtjibfoplihaabaaMg35
import Derived.Test.YtjibfoplihaabaaMg39
namespace Go.Proofs.Ytjibfoplihaabaa
open Go.RowKit
set_option linter.unusedVariables false
set_option maxRecDepth 100000

/-- What keep's calls answer, and leave, in plain words. -/
structure KeepC : Prop where
  one : ∀ (base : Nat) (p : Ph) (d : Dev) (P : PutP) (sb so sC t : Nat) (w : World), DevIs base w p d → RowV w (.slice (some ⟨sb, so, none⟩) P.n sC) P.n P.z → I64 P.pl → sb < w.heap.size → ¬ Foot p d sb → Lim d t → LimM d t → t ≤ 999000 →
    Calls Try.prog 17 #[.pointer (some ⟨p.B, 0, none⟩), .agg #[.int .i64 P.pl, .slice (some ⟨sb, so, none⟩) P.n sC]] w (DPost base p d (kepD 4 d P) (.int .i64 (kepE 4 d P)) w)
  all : ∀ (base : Nat) (X : Nat → Prop) (p : Ph) (d : Dev) (n : Nat) (f : Nat → PutP) (A : Option Addr) (C t : Nat) (w : World), DevIs base w p d → PutsV w X A n f → (∀ i, i < n → I64 (f i).pl) → (∀ i, X i → ¬ Foot p d i) → Lim d t → LimM d t → t + 13 * n ≤ 990000 →
    Calls Try.prog 9 #[.pointer (some ⟨p.B, 0, none⟩), .slice A n C] w (DPost base p d (allTo f d n).d (.int .i64 (allTo f d n).e) w)
  mend : ∀ (base : Nat) (X : Nat → Prop) (p : Ph) (d : Dev) (n : Nat) (f : Nat → PutP) (A : Option Addr) (C t : Nat) (w : World), DevIs base w p d → PutsV w X A n f → (∀ i, i < n → I64 (f i).pl) → (∀ i, X i → ¬ Foot p d i) → Lim d t → LimM d t → t + 13 * n ≤ 990000 →
    Calls Try.prog 13 #[.pointer (some ⟨p.B, 0, none⟩), .slice A n C] w (DPost base p d (mendTo f d n).d (.tuple #[.int .i64 ((mendTo f d n).c : Int), .int .i64 (mendTo f d n).e]) w)

/-! ### alone -/
section
variable {w0 w w1 : World} {X : Nat → Prop} {B : Nat} {d d' : Dev}
theorem OneX.runX {r : Value} {F : FuncId} {args : Array Value} (h : OneX w0 X B d w) (hc : Ch (fun _ => False) w w1)
    (c : ∀ p : Ph, p.B = B → DevIs w0.heap.size w1 p d → (∀ i, X i ∨ w.heap.size ≤ i → ¬ Foot p d i) → Calls Try.prog F args w1 (DPost w0.heap.size p d d' r w1)) : Calls Try.prog F args w1 (OnePX w0 X B d' r w1) := by
  obtain ⟨p, hp, h3, h4⟩ := h.dev
  have h1 := h3.gr hc
  refine (c p hp h1 (fun i hi q => hi.elim (fun x => h4 i x q) (fun x => by have := (h3.foot q).2; omega))).mono ?_
  rintro e w' ⟨rfl, p', hp', h5, h6, h7⟩
  have h8 : Ch (fun i => w0.heap.size ≤ i ∧ ¬ X i) w1 w' := h7.mono fun i _ hi => ⟨(h1.foot hi).1, fun x => h4 i x hi⟩
  refine ⟨rfl, ⟨(h.ch.trans hc).new (h8.mono fun i _ hi => hi.1), ⟨p', hp'.trans hp, h5, fun i x q => ?_⟩, fun i hi => Nat.lt_of_lt_of_le (h.lt i hi) (Nat.le_trans hc.size h7.size)⟩, h8⟩
  rcases h6 i q with q | q
  · exact h4 i x q
  · have := h.lt i x
    have := hc.size
    omega
theorem OneX.fault {f : Fa} {t : Nat} (h : OneX w0 X B d w) (hf : FaOk f) (hl : Lim d t) (hm : LimM d t) (ht : t ≤ 1000000) : Calls Try.prog 16 #[.pointer (some ⟨B, 0, none⟩), .agg (faC f)] w (OnePX w0 X B (faultD d f) (.int .i64 (faultE d f)) w) :=
  h.runX (Ch.refl _ w) fun p hp h3 _ => by
    subst hp
    exact fault_any _ p d f t w h3 hf hl hm ht
theorem OneX.crash0 {t C : Nat} (h : OneX w0 X B d w) (hl : Lim d t) (ht : t ≤ 1000000) : Calls Try.prog 19 #[.pointer (some ⟨B, 0, none⟩), .slice none 0 C] w (OnePX w0 X B (crashD d 0 (fun _ => false)) (.tuple #[]) w) :=
  h.runX (Ch.refl _ w) fun p hp h3 _ => by
    subst hp
    exact crash_any _ p d none 0 C (fun _ => false) w h3 (by have := hl.W; omega) ⟨none, C, rfl, by omega, fun h => absurd h (Nat.lt_irrefl 0)⟩ (fun b o e => by cases e)
/-- What is read, and the device beside it. -/
structure ReadX (w0 w w' : World) (X : Nat → Prop) (B : Nat) (d : Dev) (a : Int) (A : Option Addr) (C : Nat) : Prop where
  row : RowV w' (.slice A (readL d a) C) (readL d a) (readZ d a)
  new : ∀ b, (Value.slice A (readL d a) C).ownBlock = some b → w.heap.size ≤ b ∧ b < w'.heap.size
  dev : OneX w0 X B (readD d a) w'
  devX : OneX w0 (fun j => X j ∨ (Value.slice A (readL d a) C).ownBlock = some j) B (readD d a) w'
  ch : Ch (fun i => w0.heap.size ≤ i ∧ ¬ X i) w w'
theorem OneX.read {a : Int} {t : Nat} (h : OneX w0 X B d w) (hl : Lim d t) (ht : t ≤ 1000000) :
    Calls Try.prog 20 #[.pointer (some ⟨B, 0, none⟩), .int .i64 a] w fun e w' => ∃ A C, e = .returned (.tuple #[.slice A (readL d a) C, .int .i64 (readE d a)]) ∧ ReadX w0 w w' X B d a A C := by
  obtain ⟨p, hp, h3, h4⟩ := h.dev
  have hd : Devs w0 X 1 (fun _ => B) (fun _ => d) w := ⟨h.ch, ⟨fun _ => p, fun _ _ => ⟨hp, h3, h4⟩, fun i j hi hj hne => by omega⟩, h.lt⟩
  have back : ∀ {Y : Nat → Prop} {D : Nat → Dev} {w' : World}, Devs w0 Y 1 (fun _ => B) D w' → OneX w0 Y B (D 0) w' := fun q => by
    obtain ⟨p, g1, g2⟩ := q.dev
    obtain ⟨e1, e2, e3⟩ := g1 0 (by omega)
    exact ⟨q.ch, ⟨p 0, e1, e2, e3⟩, q.lt⟩
  refine (hd.read (i := 0) (a := a) (by omega) hl ht).mono ?_
  rintro e w' ⟨A, C, rfl, r1, r2, r3, r4, r5⟩
  exact ⟨A, C, rfl, r1, r2, by have := back r3; rwa [up_same] at this, by have := back r4; rwa [up_same] at this, r5⟩
theorem KeepC.oneX (K : KeepC) {P : PutP} {sb so sC t : Nat} (h : OneX w0 X B d w) (hc : Ch (fun _ => False) w w1) (hR : RowV w1 (.slice (some ⟨sb, so, none⟩) P.n sC) P.n P.z) (hp : I64 P.pl) (hb : sb < w1.heap.size) (hx : X sb ∨ w.heap.size ≤ sb) (hl : Lim d t) (hm : LimM d t) (ht : t ≤ 999000) :
    Calls Try.prog 17 #[.pointer (some ⟨B, 0, none⟩), .agg #[.int .i64 P.pl, .slice (some ⟨sb, so, none⟩) P.n sC]] w1 (OnePX w0 X B (kepD 4 d P) (.int .i64 (kepE 4 d P)) w1) :=
  h.runX hc fun p hp' h3 h4 => by
    subst hp'
    exact K.one _ p d P sb so sC t w1 h3 hR hp hb (h4 sb hx) hl hm ht
theorem KeepC.allX (K : KeepC) {X' : Nat → Prop} {n C t : Nat} {f : Nat → PutP} {A : Option Addr} (h : OneX w0 X B d w) (hc : Ch (fun _ => False) w w1) (hV : PutsV w1 X' A n f) (hp : ∀ i, i < n → I64 (f i).pl) (hx : ∀ i, X' i → X i ∨ w.heap.size ≤ i) (hl : Lim d t) (hm : LimM d t) (ht : t + 13 * n ≤ 990000) :
    Calls Try.prog 9 #[.pointer (some ⟨B, 0, none⟩), .slice A n C] w1 (OnePX w0 X B (allTo f d n).d (.int .i64 (allTo f d n).e) w1) :=
  h.runX hc fun p hp' h3 h4 => by
    subst hp'
    exact K.all _ X' p d n f A C t w1 h3 hV hp (fun i hi => h4 i (hx i hi)) hl hm ht
theorem KeepC.mendX (K : KeepC) {X' : Nat → Prop} {n C t : Nat} {f : Nat → PutP} {A : Option Addr} (h : OneX w0 X B d w) (hc : Ch (fun _ => False) w w1) (hV : PutsV w1 X' A n f) (hp : ∀ i, i < n → I64 (f i).pl) (hx : ∀ i, X' i → X i ∨ w.heap.size ≤ i) (hl : Lim d t) (hm : LimM d t) (ht : t + 13 * n ≤ 990000) :
    Calls Try.prog 13 #[.pointer (some ⟨B, 0, none⟩), .slice A n C] w1 (OnePX w0 X B (mendTo f d n).d (.tuple #[.int .i64 ((mendTo f d n).c : Int), .int .i64 (mendTo f d n).e]) w1) :=
  h.runX hc fun p hp' h3 h4 => by
    subst hp'
    exact K.mend _ X' p d n f A C t w1 h3 hV hp (fun i hi => h4 i (hx i hi)) hl hm ht
end

/-! ### beside the document's -/
section
variable {w0 w w1 w' : World} {B C : Nat} {d r : Dev}
theorem Bo.drunX {d' : Dev} {rv : Value} {f : FuncId} {args : Array Value} (h : Bo w0 w B C d r) (hc : Ch (fun _ => False) w w1) (c : ∀ p : Ph, p.B = B → DevIs w0.heap.size w1 p d → (∀ i, w.heap.size ≤ i → ¬ Foot p d i) → Calls Try.prog f args w1 (DPost w0.heap.size p d d' rv w1)) :
    Calls Try.prog f args w1 fun e w' => e = .returned rv ∧ Bo w0 w' B C d' r := by
  obtain ⟨F, p, q, h1, h2, h3, h4, h5⟩ := h.dev
  have g3 := h3.gr hc
  have g4 := h4.gr hc
  refine (c p h1 g3 (fun i hi x => by have := (h3.foot x).2; omega)).mono ?_
  rintro e w' ⟨rfl, p', q1, q2, q3, q4⟩
  refine ⟨rfl, (h.ch.trans hc).new (q4.mono fun i _ hi => (g3.foot hi).1), F, p', q, q1.trans h1, h2, q2, g4.ch q4 (fun i hi hf => h5 i hf hi), fun i hi hf => ?_⟩
  rcases q3 i hi with x | x
  · exact h5 i x hf
  · have := g4.hi i hf; omega
theorem Bo.rrunX {r' : Dev} {rv : Value} {f : FuncId} {args : Array Value} (h : Bo w0 w B C d r) (hc : Ch (fun _ => False) w w1) (c : ∀ (F : Nat → Prop) (q : Rh), q.B = C → RefIs w0.heap.size F w1 q r → (∀ i, w.heap.size ≤ i → ¬ F i) → Calls Try.prog f args w1 (RPost w0.heap.size F q.B r' rv w1)) :
    Calls Try.prog f args w1 fun e w' => e = .returned rv ∧ Bo w0 w' B C d r' := by
  obtain ⟨F, p, q, h1, h2, h3, h4, h5⟩ := h.dev
  have g3 := h3.gr hc
  have g4 := h4.gr hc
  refine (c F q h2 g4 (fun i hi x => by have := h4.hi i x; omega)).mono ?_
  rintro e w' ⟨rfl, q', q1, q2, q3⟩
  refine ⟨rfl, (h.ch.trans hc).new (q3.mono fun i _ hi => g4.low i hi), _, p, q', h1, q1.trans h2, g3.ch q3 (fun i hi hf => h5 i hi hf), q2, fun i hi hf => ?_⟩
  rcases hf with x | x
  · exact h5 i hi x
  · have := (g3.foot hi).2; omega
section
variable {n t : Nat} {f : Nat → PutP} {A : Option Addr} {E : Nat}
theorem KeepC.allB (K : KeepC) (h : Bo w0 w B C d r) (hc : Ch (fun _ => False) w w1) (hV : PutsV w1 (fun i => w.heap.size ≤ i ∧ i < w1.heap.size) A n f) (hp : ∀ i, i < n → I64 (f i).pl) (hl : Lim d t) (hm : LimM d t) (ht : t + 13 * n ≤ 990000) :
    Calls Try.prog 9 #[.pointer (some ⟨B, 0, none⟩), .slice A n E] w1 fun e w' => e = .returned (.int .i64 (allTo f d n).e) ∧ Bo w0 w' B C (allTo f d n).d r :=
  h.drunX hc fun p hp' h3 h4 => by
    subst hp'
    exact K.all _ _ p d n f A E t w1 h3 hV hp (fun i hi => h4 i hi.1) hl hm ht
theorem KeepC.mendB (K : KeepC) (h : Bo w0 w B C d r) (hc : Ch (fun _ => False) w w1) (hV : PutsV w1 (fun i => w.heap.size ≤ i ∧ i < w1.heap.size) A n f) (hp : ∀ i, i < n → I64 (f i).pl) (hl : Lim d t) (hm : LimM d t) (ht : t + 13 * n ≤ 990000) :
    Calls Try.prog 13 #[.pointer (some ⟨B, 0, none⟩), .slice A n E] w1 fun e w' => e = .returned (.tuple #[.int .i64 ((mendTo f d n).c : Int), .int .i64 (mendTo f d n).e]) ∧ Bo w0 w' B C (mendTo f d n).d r :=
  h.drunX hc fun p hp' h3 h4 => by
    subst hp'
    exact K.mend _ _ p d n f A E t w1 h3 hV hp (fun i hi => h4 i hi.1) hl hm ht
theorem Bo.rall (h : Bo w0 w B C d r) (hc : Ch (fun _ => False) w w1) (hV : PutsV w1 (fun i => w.heap.size ≤ i ∧ i < w1.heap.size) A n f) (hl : Lim r t) (hm : LimM r t) (ht : t + 13 * n ≤ 990000) :
    Calls Try.prog 11 #[.pointer (some ⟨C, 0, none⟩), .slice A n E] w1 fun e w' => e = .returned (.int .i64 (allTo f r n).e) ∧ Bo w0 w' B C d (allTo f r n).d :=
  h.rrunX hc fun F q hq h3 h4 => by
    exact hq ▸ rall_any _ F _ q r n f A E t w1 h3 hV (fun i hi => h4 i hi.1) hl hm ht
theorem Bo.rmend (h : Bo w0 w B C d r) (hc : Ch (fun _ => False) w w1) (hV : PutsV w1 (fun i => w.heap.size ≤ i ∧ i < w1.heap.size) A n f) (hl : Lim r t) (hm : LimM r t) (ht : t + 13 * n ≤ 990000) :
    Calls Try.prog 14 #[.pointer (some ⟨C, 0, none⟩), .slice A n E] w1 fun e w' => e = .returned (.tuple #[.int .i64 ((mendTo f r n).c : Int), .int .i64 (mendTo f r n).e]) ∧ Bo w0 w' B C d (mendTo f r n).d :=
  h.rrunX hc fun F q hq h3 h4 => by
    exact hq ▸ rmend_any _ F _ q r n f A E t w1 h3 hV (fun i hi => h4 i hi.1) hl hm ht
end
end
#print axioms KeepC.mendX
#print axioms Bo.rmend
end Go.Proofs.Ytjibfoplihaabaa
namespace Go.Proofs.Ytjibfoplihaabaa
open Go.RowKit
set_option linter.unusedVariables false
set_option maxRecDepth 100000

theorem keepC : KeepC where
  one := fun base p d P sb so sC t w h hR _ hb hf hl hm ht => one_any base p d P sb so sC t w h hR hb hf hl hm ht
  all := fun base X p d n f A C t w h hV _ hX hl hm ht => all_any base _ p d n f A C t w h hV.old (fun i hi => hX i hi.1) (fun i hi => hi.2) hl hm ht
  mend := fun base X p d n f A C t w h hV _ hX hl hm ht => mend_any base _ p d n f A C t w h hV.old (fun i hi => hX i hi.1) (fun i hi => hi.2) hl hm ht
#print axioms keepC
end Go.Proofs.Ytjibfoplihaabaa
namespace Go.Proofs.Ytjibfoplihaabaa
open Go.RowKit
set_option linter.unusedVariables false
set_option maxRecDepth 100000

def rdE (d : Dev) : Nat → Dev
  | 0 => d
  | j + 1 => readD (rdE d j) (j : Int)
theorem rdE_lim {d : Dev} {t : Nat} (h : Lim d t) (hm : LimM d t) : ∀ j, Lim (rdE d j) (t + j) ∧ LimM (rdE d j) (t + j)
  | 0 => ⟨h, hm⟩
  | j + 1 => by
    have ih := rdE_lim h hm j
    exact (near_read (rdE d j) (j : Int)).lim ih.1 ih.2
theorem rdE_n (d : Dev) : ∀ j, (rdE d j).n = d.n
  | 0 => rfl
  | j + 1 => (near_read (rdE d j) (j : Int)).n.trans (rdE_n d j)
def AliP (w0 : World) (B C : Nat) (d : Dev) (e : Ending) (w' : World) : Prop := e = .returned (.bool true) ∧ Bo w0 w' B C (rdE d 8) (rdE d 8)
set_option maxHeartbeats 1600000 in
theorem alike_any (w0 w : World) (B C : Nat) (d : Dev) (t : Nat) (h : Bo w0 w B C d d) (hl : Lim d t) (hm : LimM d t) (ht : t ≤ 100000) :
    Calls Try.prog 12 #[.pointer (some ⟨B, 0, none⟩), .pointer (some ⟨C, 0, none⟩)] w (AliP w0 B C d) := by
  obtain ⟨F, p, q, h1, h2, h3, h4, _⟩ := h.dev
  have c6 : w.cell? ⟨C, 6, none⟩ = some (.bool d.dead) := by rw [← h2]; exact h4.cellB 6
  have c8 : w.cell? ⟨C, 8, none⟩ = some (.int .i64 (d.ops : Int)) := by rw [← h2]; exact h4.cellB 8
  have HDead := Lib.hid (fun k => dead_any w0.heap.size p d (w.drewN k) (h3.gr ((Ch.refl _ w).drewN k)))
  have HOps := Lib.hid (fun k => ops_any w0.heap.size p d (w.drewN k) (h3.gr ((Ch.refl _ w).drewN k)))
  rw [h1] at HDead HOps
  have t1 : (d.dead != d.dead) = false := by simp
  have t2 : ((d.ops : Int) != (d.ops : Int)) = false := by simp
  have HL := Lib.hid (fun j => (rdE_lim hl hm j).1)
  have HB := Lib.hid h
  have hop := hl.ops
  clear h h1 h2 h3 h4 hl hm
  go_enter Try.func12, Try.ntmps12
  go_wp2
  go_quiet (first | (go_at_call 30; exact quL (HOps.out _)) | (go_at_call 29; exact quL (HDead.out _)))
  go_wp2
  have HB0 : Hid (Bo w0 (w.drewN nq) B C (rdE d 0) (rdE d 0)) := HB.out.gr ((Ch.refl _ w).drewN nq)
  clear HB HOps HDead c6 c8
  go_loopw [5, 6, 7, 8, 9, 10] (fun i _ _ _ _ _ wr => ∃ j : Nat, j ≤ 8 ∧ i = .int .i64 (j : Int) ∧ Hid (Bo w0 wr B C (rdE d j) (rdE d j))) (fun i _ _ _ _ _ _ => 8 - (intOf i).toNat)
  case atStart => exact ⟨0, Nat.zero_le _, rfl, HB0⟩
  case round =>
    obtain ⟨j, hj, rfl, HJ⟩ := hrel
    clear HB0
    by_cases hlt : j < 8
    · have HLJ := Lib.hid (HL.out j)
      have HR1 := Lib.hid (HJ.out.read1 (a := (j : Int)) HLJ.out (by omega))
      obtain ⟨E, hE⟩ : ∃ E, E = readE (rdE d j) (j : Int) := ⟨_, rfl⟩
      obtain ⟨l, hl⟩ : ∃ l, l = readL (rdE d j) (j : Int) := ⟨_, rfl⟩
      obtain ⟨z, hz⟩ : ∃ z, z = readZ (rdE d j) (j : Int) := ⟨_, rfl⟩
      rw [← hE, ← hl, ← hz] at HR1
      have t3 : (E != E) = false := by simp
      have HE := Lib.hid (show E = readE (rdE d j) (j : Int) ∧ l = readL (rdE d j) (j : Int) ∧ z = readZ (rdE d j) (j : Int) from ⟨hE, hl, hz⟩)
      clear hE hl hz
      go_wp2_with fail
      refine HR1.out.mono ?_
      rintro e w2 ⟨A1, C1, rfl, hb2⟩
      have HR2 := Lib.hid (hb2.read2 (a := (j : Int)) HLJ.out (by omega))
      rw [← HE.out.1, ← HE.out.2.1, ← HE.out.2.2] at HR2
      clear hb2
      go_wp2_with fail
      refine HR2.out.mono ?_
      rintro e w3 ⟨A2, C2, rfl, hr2, hr1, hb3⟩
      have HS := Lib.hid (same_any _ _ _ _ _ _ _ _ w3 hr1 hr2)
      rw [eqB_yes rfl (fun c _ => rfl)] at HS
      have HB3 := Lib.hid (show Bo w0 w3 B C (rdE d (j + 1)) (rdE d (j + 1)) from hb3)
      clear hr2 hr1 hb3 HR1 HR2
      go_wp2_with fail
      refine HS.out.mono ?_
      rintro e w4 ⟨rfl, n4, rfl⟩
      have HB4 := Lib.hid (HB3.out.gr ((Ch.refl _ w3).drewN n4))
      clear HS HB3
      go_wp2
      go_roundw
      case rel => exact ⟨j + 1, by omega, by go_num, HB4⟩
      case measure => simp [intOf]; omega
    · obtain rfl : j = 8 := by omega
      have HP : Hid (AliP w0 B C d (.returned (.bool true)) wr) := ⟨rfl, HJ.out⟩
      clear hlt
      go_wp2
      go_ret
      exact HP.out
#print axioms alike_any
end Go.Proofs.Ytjibfoplihaabaa
