/-
  What is installed on a device where nothing goes wrong, what of it is lost, what is read of it: in plain words; the calls behind one another. Two of them compared. law10.one and awake, walked: the chapter's example. Groups and sectors of any geometry, by any ints, plainly.
-/
import Derived.Test.YtjdknebifcdicaaMg31
import Derived.Test.YtjdknebifcdicaaMg23
import Derived.Test.YtjdknebifcdicaaMg25
import Derived.Laws.StructEq
import Derived.Test.YtjdknebifcdicaaMg17
namespace Go.Proofs.Ytjdknebifcdicaa
open Go.RowKit
set_option linter.unusedVariables false
set_option maxRecDepth 100000

/-! ### installed -/
theorem all_sup {N : Nat} (hN : 4 ≤ N) (x : Sp) {d : Dev} (h : Fine N d) : ∀ i, i ≤ 4 → (allTo (putS x) d i).e = 0 ∧ Fine N (allTo (putS x) d i).d ∧ ∀ a, a < i → HasZ (allTo (putS x) d i).d a (sectS x (a : Int))
  | 0, _ => ⟨rfl, h, fun a ha => absurd ha (Nat.not_lt_zero a)⟩
  | i + 1, hi => by
    obtain ⟨e1, e2, e3⟩ := all_sup hN x h i (by omega)
    obtain ⟨f1, f2, f3, f4⟩ := kep_fine (k := i) (j := 3) (by omega) (sectS x (i : Int)) e2
    have e : allTo (putS x) d (i + 1) = ⟨kepD 4 (allTo (putS x) d i).d (putS x i), kepE 4 (allTo (putS x) d i).d (putS x i)⟩ := by
      show (if (allTo (putS x) d i).e = 0 then _ else _) = _
      rw [if_pos e1]
    rw [e]
    refine ⟨f1, f2, fun a ha => ?_⟩
    by_cases q : a = i
    · subst q; exact f3
    · obtain ⟨g1, g2⟩ := f4 a q
      obtain ⟨g3, g4⟩ := e3 a (by omega)
      exact ⟨g2.trans g3, fun c hc => (congrFun g1 c).trans (g4 c hc)⟩
theorem inst_fine {N : Nat} (hN : 4 ≤ N) {x : Sp} (hm : mayS x = true) {d : Dev} (h : Fine N d) : instE x d = 0 ∧ Fine N (instD x d) ∧ ∀ a, a < 4 → HasZ (instD x d) a (sectS x (a : Int)) := by
  unfold instE instD
  rw [if_pos hm, if_pos hm]
  exact all_sup hN x h 4 (Nat.le_refl 4)
theorem inst_lim {x : Sp} {d : Dev} {t : Nat} (h : Lim d t) (hm : LimM d t) : Lim (instD x d) (t + 52) ∧ LimM (instD x d) (t + 52) := by
  unfold instD
  split
  · exact allTo_lim h hm 4
  · exact ⟨h.mono (by omega), hm.mono (by omega)⟩
/-! ### lost -/
def fls (a : Int) : Fa := ⟨3, a, 0, 0, 0, 0, 0, 0, 0⟩
theorem fls_ok {a : Int} (h : I64 a) : FaOk (fls a) := by
  have z : I64 0 := by unfold I64; omega
  have b : (0 : Nat) < 256 := by decide
  exact ⟨by unfold I64 fls; simp only; omega, h, z, z, z, b, b, b, b⟩
theorem lose_fine {N : Nat} {d : Dev} (h : Fine N d) {k : Nat} (hk : k < N) : faultD d (fls (k : Int)) = { d with lost := up d.lost k true } := by
  have hb : hasB d (k : Int) = true := decide_eq_true (by rw [h.qt.n]; omega)
  have e : faultD d (fls (k : Int)) = loseD d ((k : Int)).toNat := by
    unfold faultD
    rw [show hasB d (fls (k : Int)).pl = true from hb]
    rfl
  rw [e, Int.toNat_natCast]
  unfold loseD settleD
  rw [h.qt.W]
  obtain ⟨n, has, lost, drops, miss, W, dead, armed, left, ops⟩ := d
  have hW : W = [] := h.qt.W
  subst hW
  rfl
def lostTo (d : Dev) (q : Nat → Bool) : Nat → Dev
  | 0 => d
  | k + 1 => if q k then faultD (lostTo d q k) (fls (k : Int)) else lostTo d q k
theorem lost_fine {N : Nat} {d : Dev} (h : Fine N d) (q : Nat → Bool) : ∀ k, k ≤ N → Fine N (lostTo d q k) ∧ (lostTo d q k).has = d.has ∧ ∀ a, (lostTo d q k).lost a = (d.lost a || (decide (a < k) && q a))
  | 0, _ => ⟨h, rfl, fun a => by simp [lostTo]⟩
  | k + 1, hk => by
    obtain ⟨e1, e2, e3⟩ := lost_fine h q k (by omega)
    unfold lostTo
    cases hq : q k
    · refine ⟨e1, e2, fun a => ?_⟩
      rw [if_neg (by decide), e3]
      by_cases ha : a = k
      · subst ha; rw [hq]; simp
      · rw [show decide (a < k + 1) = decide (a < k) from decide_eq_decide.2 (by omega)]
    · rw [if_pos rfl, lose_fine e1 (by omega)]
      refine ⟨⟨⟨e1.qt.n, e1.qt.dead, e1.qt.armed, e1.qt.W⟩, e1.drops, e1.miss⟩, e2, fun a => ?_⟩
      show up (lostTo d q k).lost k true a = _
      by_cases ha : a = k
      · subst ha; rw [up_same, hq]; simp
      · rw [up_other _ _ ha, e3, show decide (a < k + 1) = decide (a < k) from decide_eq_decide.2 (by omega)]
theorem lost_lim {d : Dev} {q : Nat → Bool} {t : Nat} (h : Lim d t) (hm : LimM d t) : ∀ k, Lim (lostTo d q k) (t + k) ∧ LimM (lostTo d q k) (t + k)
  | 0 => ⟨h, hm⟩
  | k + 1 => by
    have ih := lost_lim (q := q) h hm k
    unfold lostTo
    split
    · exact (near_fault _ _).lim ih.1 ih.2
    · exact ⟨ih.1.mono (by omega), ih.2.mono (by omega)⟩
/-! ### read -/
theorem sup_reads {N : Nat} {d : Dev} (h : Qt N d) (hN : 4 ≤ N) : ∀ k, k ≤ 4 → supD d k = { d with ops := d.ops + k }
  | 0, _ => rfl
  | k + 1, hk => by
    have ih := sup_reads h hN k (by omega)
    show readD (supD d k) (k : Int) = _
    rw [ih, ((h.ops (d.ops + k)).read (k := k) (by omega)).2.1]
    rfl
theorem sup_read {N : Nat} {d : Dev} (h : Qt N d) (hN : 4 ≤ N) {k : Nat} (hk : k < 4) : supN d k = (if d.lost k then 0 else 256) ∧ supZ d k = d.has k := by
  obtain ⟨r1, _, r3⟩ := (h.ops (d.ops + k)).read (k := k) (by omega)
  unfold supN supZ
  rw [sup_reads h hN k (by omega)]
  refine ⟨?_, r3⟩
  unfold readL
  rw [r1]
  show (if (if d.lost k then (20 : Int) else 0) = 0 then 256 else 0) = _
  cases d.lost k <;> rfl
theorem told_has {N : Nat} {d : Dev} (h : Qt N d) (hN : 4 ≤ N) {k : Nat} (hk : k < 4) {x : Sp} (hm : mayS x = true) (hz : HasZ d k (sectS x (k : Int))) {o : Option Sp} (ht : TellS (supN d k) (supZ d k) (k : Int) o) : o = some x := by
  obtain ⟨e1, e2⟩ := sup_read h hN hk
  rw [hz.1] at e1
  rw [e1, e2] at ht
  exact (ht x).2 ⟨by rw [sok_at hk]; exact hm, rfl, fun c hc => hz.2 c hc⟩
theorem told_lost {N : Nat} {d : Dev} (h : Qt N d) (hN : 4 ≤ N) {k : Nat} (hk : k < 4) (hl : d.lost k = true) {o : Option Sp} (ht : TellS (supN d k) (supZ d k) (k : Int) o) : o = none := by
  obtain ⟨e1, e2⟩ := sup_read h hN hk
  rw [hl] at e1
  refine ht.none fun y hy => ?_
  have := hy.n
  rw [e1] at this
  cases this
theorem told_blank {n k : Nat} (hn : 4 ≤ n) (hk : k < 4) {o : Option Sp} (ht : TellS (supN (dev0 n) k) (supZ (dev0 n) k) (k : Int) o) : o = none := by
  obtain ⟨e1, e2⟩ := sup_read (d := dev0 n) (N := n) ⟨rfl, rfl, rfl, rfl⟩ hn hk
  refine ht.none fun y hy => ?_
  have h1 := hy.opens
  have e1' : supN (dev0 n) k = 256 := e1
  rw [e1', e2, show (dev0 n).has k = fun _ => 0 from rfl, opens_zero] at h1
  cases h1
theorem fine0 (n : Nat) : Fine n (dev0 n) := ⟨⟨rfl, rfl, rfl, rfl⟩, fun _ => rfl, fun _ => rfl⟩
theorem fine_reads {N : Nat} {d : Dev} (h : Fine N d) (hN : 4 ≤ N) : Fine N (supD d 4) ∧ (supD d 4).has = d.has ∧ (supD d 4).lost = d.lost := by
  rw [sup_reads h.qt hN 4 (Nat.le_refl 4)]
  exact ⟨⟨h.qt.ops _, h.drops, h.miss⟩, rfl, rfl⟩
theorem reads_lim {d : Dev} {t : Nat} (h : Lim d t) (hm : LimM d t) : ∀ k, Lim (supD d k) (t + k) ∧ LimM (supD d k) (t + k)
  | 0 => ⟨h, hm⟩
  | k + 1 => by
    have ih := reads_lim h hm k
    exact (near_read _ _).lim ih.1 ih.2
theorem limz (n t : Nat) : Lim (dev0 n) t ∧ LimM (dev0 n) t := ⟨⟨Nat.zero_le _, Nat.zero_le _, fun _ => Nat.zero_le _⟩, fun _ => Nat.zero_le _⟩
theorem pick_none {O : Nat → Option Sp} (h : ∀ c, c < 4 → O c = none) : pickF O 4 = none := by
  cases hp : pickF O 4 with
  | none => rfl
  | some y =>
    obtain ⟨j, hj, e⟩ := pickF_mem O 4 y hp
    rw [h j hj] at e; cases e
theorem pick_all {O : Nat → Option Sp} {x : Sp} (h : ∀ c, c < 4 → O c = none ∨ O c = some x) (k : ∃ c, c < 4 ∧ O c = some x) : pickF O 4 = some x := by
  obtain ⟨c, hc, e⟩ := k
  obtain ⟨y, hy, _⟩ := pickF_le O 4 x c e hc
  obtain ⟨j, hj, e2⟩ := pickF_mem O 4 y hy
  rcases h j hj with q | q
  · rw [q] at e2; cases e2
  · rw [q] at e2
    rw [hy, ← e2]

/-! ### calls of a device of one's own -/
section
variable {w0 w : World} {B : Nat} {d d' : Dev}
theorem One.calls {r : Value} {F : FuncId} {args : Array Value} (h : One w0 B d w) (g : ∀ p : Ph, p.B = B → DevIs w0.heap.size w p d → Calls Try.prog F args w (DPost w0.heap.size p d d' r w)) : Calls Try.prog F args w (OneP w0 B d' r) := by
  obtain ⟨h1, p, h2, h3⟩ := h
  refine (g p h2 h3).mono ?_
  intro e w' hp
  rw [← h2]
  exact hp.one h3 h1
theorem One.install {t : Nat} (h : One w0 B d w) (x : Sp) (hl : Lim d t) (hm : LimM d t) (ht : t ≤ 900000) : Calls Try.prog 19 #[.pointer (some ⟨B, 0, none⟩), .agg (supC x)] w (OneP w0 B (instD x d) (.int .i64 (instE x d))) :=
  h.calls fun p hp h3 => by rw [← hp]; exact install_any _ p d x t w h3 hl hm ht
theorem One.fault {t : Nat} {f : Fa} (h : One w0 B d w) (hf : FaOk f) (hl : Lim d t) (hm : LimM d t) (ht : t ≤ 900000) : Calls Try.prog 20 #[.pointer (some ⟨B, 0, none⟩), .agg (faC f)] w (OneP w0 B (faultD d f) (.int .i64 (faultE d f))) :=
  h.calls fun p hp h3 => by rw [← hp]; exact fault_any _ p d f t w h3 hf hl hm (by omega)
def OneRd (w0 : World) (B : Nat) (d : Dev) (e : Ending) (w' : World) : Prop :=
  ∃ O : Nat → Option Sp, (∀ c, c < 4 → TellS (supN d c) (supZ d c) (c : Int) (O c)) ∧ e = .returned (.tuple #[.agg (supC (optS (pickF O 4))), .int .i64 (pkE (pickF O 4))]) ∧ One w0 B (supD d 4) w'
theorem One.supRead {t : Nat} (h : One w0 B d w) (hd : d.dead = false) (hl : Lim d t) (ht : t ≤ 900000) : Calls Try.prog 21 #[.pointer (some ⟨B, 0, none⟩)] w (OneRd w0 B d) := by
  obtain ⟨h1, p, h2, h3⟩ := h
  subst h2
  refine (supRead_any _ p d w h3 hd (by have := hl.ops; omega) (by have := hl.W; omega)).mono ?_
  rintro e w' ⟨O, q1, q2, q3, q4⟩
  exact ⟨O, q1, q2, h1.new (q4.mono fun i _ hi => (h3.foot hi).1), p, rfl, q3⟩
end
#print axioms One.supRead
#print axioms told_has
end Go.Proofs.Ytjdknebifcdicaa
namespace Go.Proofs.Ytjdknebifcdicaa
open Go.RowKit
set_option linter.unusedVariables false
set_option maxRecDepth 100000

def eqS (x y : Sp) : Bool := (x.vol == y.vol) && ((x.gen == y.gen) && ((x.ep == y.ep) && ((x.area == y.area) && ((x.snap == y.snap) && ((x.long == y.long) && ((x.start == y.start) && ((x.chain == y.chain) && ((x.g.wal == y.g.wal) && ((x.g.st == y.g.st) && ((x.g.k == y.g.k) && (x.g.m == y.g.m)))))))))))
theorem eqS_iff {x y : Sp} : eqS x y = true ↔ x = y := by
  obtain ⟨a0, a1, a2, a3, a4, a5, a6, a7, a8, a9, a10, a11⟩ := x
  obtain ⟨b0, b1, b2, b3, b4, b5, b6, b7, b8, b9, b10, b11⟩ := y
  unfold eqS
  simp only [Bool.and_eq_true, beq_iff_eq, Sp.mk.injEq, Ge.mk.injEq]
theorem eqS_self (x : Sp) : eqS x x = true := eqS_iff.2 rfl
theorem guard_su : Try.prog.eqGuardType Try.prog.depth 25 = false := by kernel_rfl
theorem fields_su : Try.prog.underlying 25 = some (.struct (Try.prog.fieldsOf 25)) := by kernel_rfl
theorem fields_ge : Try.prog.underlying 23 = some (.struct (Try.prog.fieldsOf 23)) := by kernel_rfl
theorem held_su : Try.prog.stoodInHeld 25 = false := by kernel_rfl
theorem held_ge : Try.prog.stoodInHeld 23 = false := by kernel_rfl
theorem ite_eq {a b : Int} {q : Bool} {X : Result Value} {w : World} (h : X = Result.ok (Value.bool q) w) : (if a = b then X else Result.ok (Value.bool false) w) = Result.ok (Value.bool (a == b && q)) w := by
  by_cases e : a = b
  · rw [if_pos e, h, e]; simp
  · rw [if_neg e]
    have : (a == b) = false := by simpa using e
    rw [this]; rfl
theorem ite_last {a b : Int} {w : World} : (if a = b then Result.ok (Value.bool true) w else Result.ok (Value.bool false) w) = Result.ok (Value.bool (a == b)) w := by
  by_cases e : a = b
  · rw [if_pos e, e]; simp
  · rw [if_neg e]
    have : (a == b) = false := by simpa using e
    rw [this]
set_option maxHeartbeats 1600000 in
theorem eql_su (x y : Sp) (w : World) : (binOp .eql 25 (.agg (supC x)) (.agg (supC y))).run Try.prog w = .ok (.bool (eqS x y)) w := by
  obtain ⟨a0, a1, a2, a3, a4, a5, a6, a7, a8, a9, a10, a11⟩ := x
  obtain ⟨b0, b1, b2, b3, b4, b5, b6, b7, b8, b9, b10, b11⟩ := y
  have u3 : Try.prog.underlying /-t-/3 = some (.int .i64) := by kernel_rfl
  have a3 := Try.isAgg3
  have z3 := Try.sizeOf3
  have a4 := Try.isAgg23
  have z4 := Try.sizeOf23
  have hg : ∀ (xs ys : Array Value) (w : World), (Op.equalIn 9999 23 (.agg xs) (.agg ys)).run Try.prog w = (Op.eqFields 9998 xs ys (Try.prog.fieldsOf 23).toList).run Try.prog w := fun xs ys w => run_equalIn_struct w 9998 _ xs ys fields_ge held_ge
  simp only [Program.fieldsOf, Try.underlying23] at hg
  rw [run_eql_struct, show (10000 : Nat) = 9999 + 1 from rfl, run_equalIn_struct w _ _ _ _ fields_su held_su]
  unfold supC eqS
  simp only [Program.fieldsOf, Try.underlying25]
  go_simp
  exact ite_eq (ite_eq (ite_eq (ite_eq (ite_eq (ite_eq (ite_eq (ite_eq (ite_eq (ite_eq (ite_eq ite_last))))))))))
theorem eql_lit (a0 a1 a2 a3 a4 a5 a6 a7 a8 a9 a10 a11 b0 b1 b2 b3 b4 b5 b6 b7 b8 b9 b10 b11 : Int) (w : World) : (binOp .eql 25 (.agg #[.int .i64 a0, .int .i64 a1, .int .i64 a2, .int .i64 a3, .int .i64 a4, .int .i64 a5, .int .i64 a6, .int .i64 a7, .int .i64 a8, .int .i64 a9, .int .i64 a10, .int .i64 a11]) (.agg #[.int .i64 b0, .int .i64 b1, .int .i64 b2, .int .i64 b3, .int .i64 b4, .int .i64 b5, .int .i64 b6, .int .i64 b7, .int .i64 b8, .int .i64 b9, .int .i64 b10, .int .i64 b11])).run Try.prog w = .ok (.bool (eqS ⟨a0, a1, a2, a3, a4, a5, a6, a7, ⟨a8, a9, a10, a11⟩⟩ ⟨b0, b1, b2, b3, b4, b5, b6, b7, ⟨b8, b9, b10, b11⟩⟩)) w := eql_su ⟨a0, a1, a2, a3, a4, a5, a6, a7, ⟨a8, a9, a10, a11⟩⟩ ⟨b0, b1, b2, b3, b4, b5, b6, b7, ⟨b8, b9, b10, b11⟩⟩ w
theorem eql_mix (a0 a1 a2 a3 a4 a5 a6 a7 a8 a9 a10 a11 : Int) (y : Sp) (w : World) : (binOp .eql 25 (.agg #[.int .i64 a0, .int .i64 a1, .int .i64 a2, .int .i64 a3, .int .i64 a4, .int .i64 a5, .int .i64 a6, .int .i64 a7, .int .i64 a8, .int .i64 a9, .int .i64 a10, .int .i64 a11]) (.agg (supC y))).run Try.prog w = .ok (.bool (eqS ⟨a0, a1, a2, a3, a4, a5, a6, a7, ⟨a8, a9, a10, a11⟩⟩ y)) w := eql_su ⟨a0, a1, a2, a3, a4, a5, a6, a7, ⟨a8, a9, a10, a11⟩⟩ y w
#print axioms eql_su
end Go.Proofs.Ytjdknebifcdicaa
namespace Go.Proofs.Ytjdknebifcdicaa
open Go.RowKit
set_option linter.unusedVariables false
set_option maxRecDepth 100000
attribute [local go_sem] guard_su

def oneS (n : Int) : Sp := ⟨7, n, 2, 0, 3, 9, 4, 5, ⟨8, 1, 2, 1⟩⟩
theorem one_may : mayS (oneS 5) = true := by decide
theorem zero_ge (w : World) : (Instr.build 23 #[(0, .int .i64 8), (1, .int .i64 1), (2, .int .i64 2), (3, .int .i64 1)]).run Try.prog w = .ok (.agg #[.int .i64 8, .int .i64 1, .int .i64 2, .int .i64 1]) w := run_build w _ _ _ (by kernel_rfl)
theorem built_one (n : Int) (w : World) : (Instr.build 25 #[(0, .int .i64 7), (1, .int .i64 n), (2, .int .i64 2), (4, .int .i64 3), (5, .int .i64 9), (6, .int .i64 4), (7, .int .i64 5), (8, .agg #[.int .i64 8, .int .i64 1, .int .i64 2, .int .i64 1])]).run Try.prog w = .ok (.agg (supC (oneS n))) w := run_build w _ _ _ (by kernel_rfl)
set_option maxHeartbeats 1600000 in
theorem lone_any (n : Int) (w : World) : Calls Try.prog 24 #[.int .i64 n] w (Ans (.agg (supC (oneS n))) w) := by
  obtain ⟨w1, H, hZ⟩ := zeS w
  obtain ⟨w2, h2⟩ := stS (oneS n) hZ.cx
  have HP := Lib.hid (show Ch (fun _ => False) w w2 from hZ.ch.new (h2.ch.mono fun i _ hi => by rw [hi, ← hZ.sz]; exact Nat.le_refl _))
  have HZ := Lib.hid hZ
  have H2 := Lib.hid h2
  have HB1 := Lib.hid (zero_ge w1)
  have HB2 := Lib.hid (built_one n w1)
  clear hZ h2
  go_enter Try.func24, Try.ntmps24
  go_wp2_with (first
    | ((with_reducible refine wpList_isOp (.alloc 25) rfl ?_); refine wpList_making _ w1 rfl 25 rfl (supC sp0) H (zero_su _) (by exact HZ.out.sz) (by exact HZ.out.al) ?_)
    | (refine wpList_building _ rfl 23 _ rfl _ (by exact HB1.out) ?_)
    | (refine wpList_building _ rfl 25 _ rfl _ (by exact HB2.out) ?_)
    | ((with_reducible refine wpList_isOp (.store 25 (.tmp 2) (.tmp 5)) rfl ?_); refine wpList_storing _ w2 rfl 25 (.tmp 2) (.tmp 5) rfl (.agg (supC (oneS n))) ⟨H, 0, none⟩ rfl rfl (by exact H2.out.st) ?_)
    | fail)
  exact bodyPost_ret (v := .agg (supC (oneS n))) (results_cell_row Try.results24 _ _ H 25 (supC (oneS n)) (0, 0) _ rfl H2.out.cx Try.underlying25 rfl size_su) rfl ⟨rfl, HP.out⟩
#print axioms lone_any

/-! ### the example, in plain words -/
def aw0 : Dev := supD (dev0 26) 4
def aw1 : Dev := instD (oneS 5) aw0
def awQ (a : Nat) : Bool := true
def aw2 : Dev := lostTo aw1 awQ 3
theorem aw0_fine : Fine 26 aw0 := (fine_reads (fine0 26) (by decide)).1
theorem aw1_fine : instE (oneS 5) aw0 = 0 ∧ Fine 26 aw1 ∧ ∀ a, a < 4 → HasZ aw1 a (sectS (oneS 5) (a : Int)) := inst_fine (by decide) one_may aw0_fine
theorem aw2_fine : Fine 26 aw2 := (lost_fine aw1_fine.2.1 awQ 3 (by decide)).1
theorem aw_lims : (Lim aw0 4 ∧ LimM aw0 4) ∧ (Lim aw1 56 ∧ LimM aw1 56) ∧ ∀ k, Lim (lostTo aw1 awQ k) (56 + k) ∧ LimM (lostTo aw1 awQ k) (56 + k) := by
  have l0 := reads_lim (limz 26 0).1 (limz 26 0).2 4
  have l1 := inst_lim (x := oneS 5) l0.1 l0.2
  exact ⟨l0, l1, lost_lim l1.1 l1.2⟩
theorem aw_none {O : Nat → Option Sp} (h : ∀ c, c < 4 → TellS (supN (dev0 26) c) (supZ (dev0 26) c) (c : Int) (O c)) : pickF O 4 = none := pick_none fun c hc => told_blank (by decide) hc (h c hc)
theorem aw_some {O : Nat → Option Sp} (h : ∀ c, c < 4 → TellS (supN aw2 c) (supZ aw2 c) (c : Int) (O c)) : pickF O 4 = some (oneS 5) := by
  obtain ⟨_, f1, h1⟩ := aw1_fine
  obtain ⟨_, e2, e3⟩ := lost_fine f1 awQ 3 (by decide)
  have h3 : O 3 = some (oneS 5) := told_has aw2_fine.qt (by decide) (by decide) one_may ⟨by
    show (lostTo aw1 awQ 3).lost 3 = false
    rw [e3, (h1 3 (by decide)).1]; rfl, fun c hc => by
    show (lostTo aw1 awQ 3).has 3 c = _
    rw [e2]; exact (h1 3 (by decide)).2 c hc⟩ (h 3 (by decide))
  refine pick_all (fun c hc => ?_) ⟨3, by decide, h3⟩
  by_cases q : c < 3
  · refine Or.inl (told_lost aw2_fine.qt (by decide) hc ?_ (h c hc))
    show (lostTo aw1 awQ 3).lost c = true
    rw [e3, decide_eq_true q]
    simp [awQ]
  · obtain rfl : c = 3 := by omega
    exact Or.inr h3

/-! ### awake -/
set_option maxHeartbeats 6400000 in
theorem awake_any (w : World) : Calls Try.prog 8 #[] w (Ans (.bool true) w) := by
  go_enter Try.func8, Try.ntmps8
  go_wp2_with fail
  refine (One.new 26 w (by decide) (by decide) w (Ch.refl _ w)).mono ?_
  rintro e w1 ⟨B, rfl, hD⟩
  have HD1 := Lib.hid hD
  clear hD
  go_wp2_with fail
  refine (HD1.out.supRead (t := 0) rfl (limz 26 0).1 (by decide)).mono ?_
  rintro e w2 ⟨O, hO, rfl, hD⟩
  rw [aw_none hO]
  obtain ⟨wz, w3, H3, hV3⟩ := varS sp0 w2
  have HD3 := Lib.hid (show One w B aw0 w3 from hD.gr hV3.ch)
  have HV3 := Lib.hid hV3
  clear hD hV3 hO
  rw [show optS none = sp0 from rfl, show pkE none = 22 from rfl]
  go_wp2_with (first
    | ((with_reducible refine wpList_isOp (.alloc 25) rfl ?_); refine wpList_making _ wz rfl 25 rfl (supC sp0) H3 (zero_su _) (by exact HV3.out.sz) (by exact HV3.out.al) ?_)
    | ((with_reducible refine wpList_isOp (.store 25 (.tmp 3) (.tmp 16)) rfl ?_); refine wpList_storing _ w3 rfl 25 (.tmp 3) (.tmp 16) rfl (.agg (supC sp0)) ⟨H3, 0, none⟩ rfl rfl (by exact HV3.out.st) ?_)
    | (go_at_call 24; refine (lone_any 5 _).mono ?_; rintro e w4 ⟨rfl, hc4⟩)
    | fail)
  have HD4 := Lib.hid (HD3.out.gr hc4)
  clear hc4
  refine (HD4.out.install (t := 4) (oneS 5) aw_lims.1.1 aw_lims.1.2 (by decide)).mono ?_
  rintro e w5 ⟨rfl, hD⟩
  rw [aw1_fine.1]
  have HD5 := Lib.hid (show One w B (lostTo aw1 awQ 0) w5 from hD)
  clear hD
  go_wp2_with fail
  go_loopw [6, 21, 22, 23, 24, 25, 26, 27, 28] (fun i _ _ _ _ _ _ _ _ wr => ∃ k : Nat, k ≤ 3 ∧ i = .int .i64 k ∧ Hid (One w B (lostTo aw1 awQ k) wr)) (fun i _ _ _ _ _ _ _ _ _ => 3 - (intOf i).toNat)
  case atStart => exact ⟨0, Nat.zero_le _, rfl, HD5⟩
  case round =>
    obtain ⟨k, hk, rfl, HK⟩ := hrel
    by_cases hlt : k < 3
    · have i1 : (0 : Int) ≤ (k : Int) := Int.natCast_nonneg _
      have i2 : (k : Int) < 3 := by omega
      have HF := Lib.hid (HK.out.fault (t := 56 + k) (f := fls (k : Int)) (fls_ok (by unfold I64; omega)) (aw_lims.2.2 k).1 (aw_lims.2.2 k).2 (by omega))
      have HLT := Lib.hid hlt
      clear hlt
      go_wp2_with fail
      refine HF.out.mono ?_
      rintro e w6 ⟨rfl, hD⟩
      have HN := Lib.hid (show One w B (lostTo aw1 awQ (k + 1)) w6 from hD)
      obtain ⟨E, hE⟩ : ∃ E, E = faultE (lostTo aw1 awQ k) (fls (k : Int)) := ⟨_, rfl⟩
      rw [← hE]
      clear hD hE
      go_wp2
      go_roundw
      case rel => exact ⟨k + 1, HLT.out, by go_num, HN⟩
      case measure => have := HLT.out; simp [intOf]; omega
    · obtain rfl : k = 3 := by omega
      clear hlt hk
      rw [show ((3 : Nat) : Int) = 3 from rfl]
      go_wp2_with fail
      refine ((show One w B aw2 wr from HK.out).supRead (t := 59) aw2_fine.qt.dead (aw_lims.2.2 3).1 (by decide)).mono ?_
      rintro e w7 ⟨O, hO, rfl, hD⟩
      rw [aw_some hO]
      obtain ⟨y, hy⟩ : ∃ y, y = oneS 5 := ⟨_, rfl⟩
      rw [show optS (some (oneS 5)) = oneS 5 from rfl, show pkE (some (oneS 5)) = 0 from rfl, ← hy]
      obtain ⟨wz8, w8, H, hV8⟩ := varS y w7
      have HX := Lib.hid (su_x hV8.cx)
      have HC8 := Lib.hid (hD.ch.trans hV8.ch)
      have HV8 := Lib.hid hV8
      have HON := Lib.hid (fun w => hy ▸ lone_any 5 w)
      have HMY := Lib.hid (show mayS y = true by rw [hy]; exact one_may)
      have HEQ := Lib.hid (eqS_self y)
      clear hD hV8 hO hy
      go_wp2_with (first
        | ((with_reducible refine wpList_isOp (.alloc 25) rfl ?_); refine wpList_making _ wz8 rfl 25 rfl (supC sp0) H (zero_su _) (by exact HV8.out.sz) (by exact HV8.out.al) ?_)
        | ((with_reducible refine wpList_isOp (.store 25 (.tmp 7) (.tmp 32)) rfl ?_); refine wpList_storing _ w8 rfl 25 (.tmp 7) (.tmp 32) rfl (.agg (supC y)) ⟨H, 0, none⟩ rfl rfl (by exact HV8.out.st) ?_)
        | fail)
      go_region_held3 (fun w' => w'.cell? ⟨H, 0, none⟩ = some (.int .i64 (y).vol) ∧ w'.cell? ⟨H, 1, none⟩ = some (.int .i64 (y).gen) ∧ w'.cell? ⟨H, 2, none⟩ = some (.int .i64 (y).ep) ∧ w'.cell? ⟨H, 3, none⟩ = some (.int .i64 (y).area) ∧ w'.cell? ⟨H, 4, none⟩ = some (.int .i64 (y).snap) ∧ w'.cell? ⟨H, 5, none⟩ = some (.int .i64 (y).long) ∧ w'.cell? ⟨H, 6, none⟩ = some (.int .i64 (y).start) ∧ w'.cell? ⟨H, 7, none⟩ = some (.int .i64 (y).chain) ∧ w'.cell? ⟨H, 8, none⟩ = some (.int .i64 (y).g.wal) ∧ w'.cell? ⟨H, 9, none⟩ = some (.int .i64 (y).g.st) ∧ w'.cell? ⟨H, 10, none⟩ = some (.int .i64 (y).g.k) ∧ w'.cell? ⟨H, 11, none⟩ = some (.int .i64 (y).g.m)) (first | exact kb | exact ka | exact HX.out.drew.all | go_keep)
        (first
          | (go_at_call 24; refine (HON.out _).mono ?_; rintro e w9 ⟨rfl, hc9⟩; unfold supC; have ka := (HX.out.drew.gr hc9).all)
          | (go_at_call 14; refine (smay_any y _).mono ?_; rintro e w10 ⟨rfl, hc10⟩; have kb := ((HX.out.drew.gr hc9).gr hc10).all; rw [HMY.out]))
      go_wp2
      go_ret
      exact ⟨rfl, (HC8.out.drew.trans hc9).trans hc10⟩
#print axioms awake_any
end Go.Proofs.Ytjdknebifcdicaa
namespace Go.Proofs.Ytjdknebifcdicaa
open Go.RowKit
set_option linter.unusedVariables false
set_option maxRecDepth 100000

def toGn (g : Ge) : Gn := ⟨g.wal.toNat, g.st.toNat, g.k.toNat, g.m.toNat⟩
theorem toGn_ge (n : Gn) : toGn n.ge = n := by
  obtain ⟨a, b, c, d⟩ := n
  unfold toGn Gn.ge
  simp only [Int.toNat_natCast]
def inG (g : Ge) (i : Int) : Bool := decide (0 ≤ i ∧ i < grpG g)
def cntG (g : Ge) (i : Int) : Nat := if inG g i then (toGn g).cnt i.toNat else 0
def brsG (g : Ge) (i : Int) : Nat := if inG g i then (toGn g).brs i.toNat else 0
def secG (g : Ge) (i : Int) (p : Nat) : Int := ((toGn g).sec i.toNat p : Int)
def atG (g : Ge) (a : Int) : Bool := decide (0 ≤ a ∧ a < totG g)
def whE (g : Ge) (a : Int) : Int := if mayG g then (if atG g a then 0 else 3) else 1
def whI (g : Ge) (a : Int) : Int := if atG g a then ((toGn g).ofA a.toNat : Int) else 0
def whJ (g : Ge) (a : Int) : Int := if atG g a then ((toGn g).plA a.toNat : Int) else 0
def whV (g : Ge) (a : Int) : Value := .tuple #[.int .i64 (whI g a), .int .i64 (whJ g a), .int .i64 (whE g a)]
theorem inG_no {g : Ge} {i : Int} (h : inG g i = false) : cntG g i = 0 ∧ brsG g i = 0 := by unfold cntG brsG; rw [h]; exact ⟨rfl, rfl⟩
theorem inG_may {g : Ge} {i : Int} (h : inG g i = true) : mayG g = true := by
  have h1 := of_decide_eq_true h
  cases t : mayG g
  · rw [grpG_no t] at h1; omega
  · rfl
theorem inG_nat {g : Ge} {i : Int} (h : inG g i = true) : ∃ (n : Gn) (j : Nat), n.Ok ∧ g = n.ge ∧ i = (j : Int) ∧ j < n.grp := by
  obtain ⟨n, hn, rfl⟩ := may_nat (inG_may h)
  have h1 := of_decide_eq_true h
  rw [grpG_ok hn] at h1
  exact ⟨n, i.toNat, hn, rfl, by omega, by omega⟩
theorem inG_ok {n : Gn} (h : n.Ok) {j : Nat} (hj : j < n.grp) : inG n.ge (j : Int) = true := decide_eq_true (by rw [grpG_ok h]; omega)
theorem cntG_ok {n : Gn} (h : n.Ok) {j : Nat} (hj : j < n.grp) : cntG n.ge (j : Int) = n.cnt j := by unfold cntG; rw [inG_ok h hj, if_pos rfl, toGn_ge, Int.toNat_natCast]
theorem brsG_ok {n : Gn} (h : n.Ok) {j : Nat} (hj : j < n.grp) : brsG n.ge (j : Int) = n.brs j := by unfold brsG; rw [inG_ok h hj, if_pos rfl, toGn_ge, Int.toNat_natCast]
theorem secG_ok (n : Gn) (j p : Nat) : secG n.ge (j : Int) p = (n.sec j p : Int) := by unfold secG; rw [toGn_ge, Int.toNat_natCast]
theorem cntG_le (g : Ge) (i : Int) : cntG g i ≤ 24 := by
  cases t : inG g i
  · rw [(inG_no t).1]; omega
  · obtain ⟨n, j, hn, rfl, rfl, hj⟩ := inG_nat t
    rw [cntG_ok hn hj]
    exact Gn.cnt_le hn j
theorem whE_no {g : Ge} {a : Int} (h : mayG g = false) : whV g a = .tuple #[.int .i64 0, .int .i64 0, .int .i64 1] := by
  have : atG g a = false := decide_eq_false (by rw [totG_no h]; omega)
  unfold whV whI whJ whE
  rw [h, this]
  rfl
theorem whE_off {g : Ge} {a : Int} (h : mayG g = true) (k : atG g a = false) : whV g a = .tuple #[.int .i64 0, .int .i64 0, .int .i64 3] := by
  unfold whV whI whJ whE
  rw [h, k]
  rfl
theorem atG_nat {n : Gn} (h : n.Ok) {a : Int} (k : atG n.ge a = true) : ∃ b : Nat, a = (b : Int) ∧ b < n.tot := by
  have h1 := of_decide_eq_true k
  rw [totG_ok h] at h1
  exact ⟨a.toNat, by omega, by omega⟩
theorem atG_ok {n : Gn} (h : n.Ok) {b : Nat} (hb : b < n.tot) : atG n.ge (b : Int) = true := decide_eq_true (by rw [totG_ok h]; omega)
theorem whE_at {n : Gn} (h : n.Ok) {b : Nat} (hb : b < n.tot) : whV n.ge (b : Int) = .tuple #[.int .i64 (n.ofA b : Int), .int .i64 (n.plA b : Int), .int .i64 0] := by
  unfold whV whI whJ whE
  rw [ok_may h, atG_ok h hb, toGn_ge, Int.toNat_natCast]
  rfl
#print axioms whE_at
end Go.Proofs.Ytjdknebifcdicaa
