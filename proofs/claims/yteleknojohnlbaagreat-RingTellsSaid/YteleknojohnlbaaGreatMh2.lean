/-
  Blocks apart, and steps on values of many cells, said by what they make. Geometries, plainly: how many sectors and groups there are, which sectors a group has, where a sector is; the counting that the document does. A geometry that is handed in, opened. The document's Same (quartermasterref04), walked.
-/
import Derived.Test.YteleknojohnlbaaGreatMh1
import Derived.Deep.MidRow
import Derived.Deep.Slices
import Derived.Deep.Fields
import Derived.ChangeSame
namespace Go.Proofs.YteleknojohnlbaaGreat
open Go.RowKit
set_option linter.unusedVariables false
set_option maxRecDepth 100000

/-! ### blocks apart -/
theorem cells_ne {w : World} {i j : Nat} {c e : Array Value} {t u : TypeId} {f g : Nat × Nat} (h : w.heap[i]? = some (.cells c t f)) (k : w.heap[j]? = some (.cells e u g)) (ht : t ≠ u) : i ≠ j := fun q => by
  subst q
  rw [h] at k
  injection k with k
  injection k with _ k _
  exact ht k
theorem own_at {w : World} {base : Nat} {e : TypeId} {sz : Nat} {v : Value} {n : Nat} {xs : List Value} (h : w.ownsRow base e sz v n xs) {i : Nat} (hi : v.ownBlock = some i) : base ≤ i ∧ ∃ c, w.heap[i]? = some (.cells c e (0, 0)) := by
  rcases h.2 with ⟨rfl, _⟩ | ⟨g, cap, cur, rfl, hb, hg, _⟩
  · cases hi
  · injection hi with hi
    subst hi
    exact ⟨hb, cur, hg⟩
theorem own_of {w w' : World} {base : Nat} {e : TypeId} {sz : Nat} {v : Value} {n : Nat} {xs : List Value} (h : w.ownsRow base e sz v n xs) (k : ∀ i, v.ownBlock = some i → w'.heap[i]? = w.heap[i]?) : w'.ownsRow base e sz v n xs := by
  refine ⟨h.1, ?_⟩
  rcases h.2 with hn | ⟨g, cap, cur, rfl, hb, hg, rest⟩
  · exact Or.inl hn
  · exact Or.inr ⟨g, cap, cur, rfl, hb, (k g rfl).trans hg, rest⟩
theorem blk_frozen {w : World} {b i : Nat} {c : Array Value} {t : TypeId} (h : w.heap[b]? = some (.cells c t (0, 0))) : w.frozen? ⟨b, i, none⟩ = false := by simp [World.frozen?, h]
theorem blk_cell {w : World} {b i : Nat} {c : Array Value} {t : TypeId} {f : Nat × Nat} (h : w.heap[b]? = some (.cells c t f)) : w.cell? ⟨b, i, none⟩ = c[i]? := by simp [World.cell?, h]
theorem blk_lt {w : World} {b : Nat} {o : Obj} (h : w.heap[b]? = some o) : b < w.heap.size := (Array.getElem?_eq_some_iff.1 h).1
theorem blk_set {w : World} {b i : Nat} {c : Array Value} {t : TypeId} {f : Nat × Nat} (h : w.heap[b]? = some (.cells c t f)) (v : Value) : (w.setCell ⟨b, i, none⟩ v).heap[b]? = some (.cells (c.setIfInBounds i v) t f) := by
  simp [World.setCell, h, Array.getElem?_modify]
/-! ### values of many cells: steps, said by what they make -/
section
variable {P : Program} {ops : Array Oper} {rest : List Oper} {o : Oper} {a : Act} {Q : Exit → Act → World → Prop}
/-- (A guard: the goal is a list of steps.) -/
theorem wpList_same {l : List Oper} {w : World} (h : wpList P ops Q l a w) : wpList P ops Q l a w := h
theorem wpList_boxing (w w' : World) (hgd : o.guard = none) (t : TypeId) (x : Operand) (ho : o.op = .box t x) (cs : Array Value) (H : Nat) (hx : a.eval x = .agg cs) (hH : w.heap.size = H) (hw : w.alloc (.cells cs t) = w')
    (h : wpList P ops Q rest (a.put o.dst (.pointer (some ⟨H, 0, none⟩))) w') : wpList P ops Q (o :: rest) a w := by
  subst hH hw
  refine wpList_plain hgd fun K hK => ?_
  unfold Oper.wp execOp
  simp only [ho, hx, Sem.run_bind, Instr.box, newVar, newRow, run_newObj_alloc, Sem.run_pure, Result.andThen_ok, Value.cells]
  exact hK _ _ h
theorem wpList_making (w w' : World) (hgd : o.guard = none) (t : TypeId) (ho : o.op = .alloc t) (cs : Array Value) (H : Nat) (hz : (zeroValue t).run P w = .ok (.agg cs) w) (hH : w.heap.size = H) (hw : w.alloc (.cells cs t) = w')
    (h : wpList P ops Q rest (a.put o.dst (.pointer (some ⟨H, 0, none⟩))) w') : wpList P ops Q (o :: rest) a w := by
  subst hH hw
  refine wpList_plain hgd fun K hK => ?_
  unfold Oper.wp execOp
  simp only [ho, Sem.run_bind, Instr.alloc, hz, newVar, newRow, run_newObj_alloc, Sem.run_pure, Result.andThen_ok, Value.cells]
  exact hK _ _ h
theorem wpList_loading (w : World) (hgd : o.guard = none) (ty : TypeId) (x : Operand) (ho : o.op = .load ty x) (v : Value) (p : Addr) (hx : a.eval x = .pointer (some p)) (hr : (loadVar ty p).run P w = .ok v w)
    (h : wpList P ops Q rest (a.put o.dst v) w) : wpList P ops Q (o :: rest) a w := by
  refine wpList_plain hgd fun K hK => ?_
  unfold Oper.wp execOp
  simp only [ho, hx, Instr.loadAt, Instr.sureAddr, Sem.run_bind, Sem.run_pure, Result.andThen_ok, hr]
  exact hK _ _ h
theorem wpList_storing (w w' : World) (hgd : o.guard = none) (ty : TypeId) (x y : Operand) (ho : o.op = .store ty x y) (v : Value) (p : Addr) (hx : a.eval x = .pointer (some p)) (hy : a.eval y = v) (hr : (storeVar ty p v).run P w = .ok () w')
    (h : wpList P ops Q rest (a.put o.dst undef) w') : wpList P ops Q (o :: rest) a w := by
  refine wpList_plain hgd fun K hK => ?_
  unfold Oper.wp execOp
  simp only [ho, hx, hy, Instr.storeAt, Instr.sureAddr, Sem.run_bind, Sem.run_pure, Result.andThen_ok, hr]
  exact hK _ _ h
theorem wpList_building (w : World) (hgd : o.guard = none) (t : TypeId) (parts : Array (Nat × Operand)) (ho : o.op = .build t parts) (v : Value) (hr : (Instr.build t (parts.map fun (i, x) => (i, a.eval x))).run P w = .ok v w)
    (h : wpList P ops Q rest (a.put o.dst v) w) : wpList P ops Q (o :: rest) a w := by
  refine wpList_plain hgd fun K hK => ?_
  unfold Oper.wp execOp
  simp only [ho, Sem.run_bind, Sem.run_pure, Result.andThen_ok, hr]
  exact hK _ _ h
/-- (A guard: the step at hand is this one.) -/
theorem wpList_isOp {w : World} (op : Op) (ho : o.op = op) (h : wpList P ops Q (o :: rest) a w) : wpList P ops Q (o :: rest) a w := h
/-! ### steps of a region that draws its order -/
/-- What a load yields, wherever the variable holds that. -/
theorem exec_load {S : World → Prop} (ty : TypeId) (x : Operand) (ho : o.op = .load ty x) (v : Value) (p : Addr) (hx : a.eval x = .pointer (some p)) (hr : ∀ w, S w → (loadVar ty p).run P w = .ok v w) : ∀ w, S w → (execOp a.eval o).run P w = .ok (.value v) w := fun w hS => by
  unfold execOp
  simp only [ho, hx, Instr.loadAt, Instr.sureAddr, Sem.run_bind, Sem.run_pure, Result.andThen_ok, hr w hS]
theorem step_making {w : World} {K : Act → World → Prop} {E : Prop} (w' : World) (hgd : o.guard = none) (t : TypeId) (ho : o.op = .alloc t) (cs : Array Value) (H : Nat) (hz : (zeroValue t).run P w = .ok (.agg cs) w) (hH : w.heap.size = H) (hw : w.alloc (.cells cs t) = w')
    (hK : K (a.put o.dst (.pointer (some ⟨H, 0, none⟩))) w') : if Region.wanted o (yielded ops a.tmps) = true then Oper.wp P o a w K Q else E := by
  subst hH hw
  have hwt : Region.wanted o (yielded ops a.tmps) = true := by simp [Region.wanted, hgd]
  rw [if_pos hwt]
  unfold Oper.wp execOp
  simp only [ho, Sem.run_bind, Instr.alloc, hz, newVar, newRow, run_newObj_alloc, Sem.run_pure, Result.andThen_ok, Value.cells]
  exact hK
theorem step_storing {w : World} {K : Act → World → Prop} {E : Prop} (w' : World) (hgd : o.guard = none) (ty : TypeId) (x y : Operand) (ho : o.op = .store ty x y) (v : Value) (p : Addr) (hx : a.eval x = .pointer (some p)) (hy : a.eval y = v) (hr : (storeVar ty p v).run P w = .ok () w')
    (hK : K (a.put o.dst undef) w') : if Region.wanted o (yielded ops a.tmps) = true then Oper.wp P o a w K Q else E := by
  have hwt : Region.wanted o (yielded ops a.tmps) = true := by simp [Region.wanted, hgd]
  rw [if_pos hwt]
  unfold Oper.wp execOp
  simp only [ho, hx, hy, Instr.storeAt, Instr.sureAddr, Sem.run_bind, Sem.run_pure, Result.andThen_ok, hr]
  exact hK
end
end Go.Proofs.YteleknojohnlbaaGreat
namespace Go.Proofs.YteleknojohnlbaaGreat
open Go.RowKit
set_option linter.unusedVariables false
set_option maxRecDepth 100000

/-! ### a geometry -/
structure Ge where
  wal : Int
  st : Int
  k : Int
  m : Int
def geC (g : Ge) : Array Value := #[.int .i64 g.wal, .int .i64 g.st, .int .i64 g.k, .int .i64 g.m]
def G64 (x : Int) : Prop := -9223372036854775808 ≤ x ∧ x ≤ 9223372036854775807
structure GeIs (g : Ge) : Prop where
  wal : G64 g.wal
  st : G64 g.st
  k : G64 g.k
  m : G64 g.m
def inB (n a b : Int) : Bool := decide (a ≤ n ∧ n ≤ b)
theorem inB_true {n a b : Int} : inB n a b = true ↔ a ≤ n ∧ n ≤ b := decide_eq_true_iff
def mayG (g : Ge) : Bool := inB g.wal 8 512 && (inB g.st 1 32 && (inB g.k 1 16 && inB g.m 1 8))
/-- One that may be. -/
structure Gn where
  W : Nat
  S : Nat
  K : Nat
  M : Nat
structure Gn.Ok (n : Gn) : Prop where
  w1 : 8 ≤ n.W
  w2 : n.W ≤ 512
  s1 : 1 ≤ n.S
  s2 : n.S ≤ 32
  k1 : 1 ≤ n.K
  k2 : n.K ≤ 16
  m1 : 1 ≤ n.M
  m2 : n.M ≤ 8
def Gn.ge (n : Gn) : Ge := ⟨n.W, n.S, n.K, n.M⟩
theorem may_parts {g : Ge} (h : mayG g = true) : (8 ≤ g.wal ∧ g.wal ≤ 512) ∧ (1 ≤ g.st ∧ g.st ≤ 32) ∧ (1 ≤ g.k ∧ g.k ≤ 16) ∧ (1 ≤ g.m ∧ g.m ≤ 8) := by
  unfold mayG at h
  simp only [Bool.and_eq_true, inB_true] at h
  exact h
theorem may_nat {g : Ge} (h : mayG g = true) : ∃ n : Gn, n.Ok ∧ g = n.ge := by
  obtain ⟨⟨a1, a2⟩, ⟨b1, b2⟩, ⟨c1, c2⟩, ⟨d1, d2⟩⟩ := may_parts h
  obtain ⟨w, s, k, m⟩ := g
  simp only at *
  refine ⟨⟨w.toNat, s.toNat, k.toNat, m.toNat⟩, ⟨by simp only; omega, by simp only; omega, by simp only; omega, by simp only; omega, by simp only; omega, by simp only; omega, by simp only; omega, by simp only; omega⟩, ?_⟩
  unfold Gn.ge
  simp only [Ge.mk.injEq]
  omega
theorem ok_may {n : Gn} (h : n.Ok) : mayG n.ge = true := by
  unfold mayG
  simp only [Bool.and_eq_true, inB_true]
  have := h.w1
  have := h.w2
  have := h.s1
  have := h.s2
  have := h.k1
  have := h.k2
  have := h.m1
  have := h.m2
  refine ⟨?_, ?_, ?_, ?_⟩ <;> (unfold Gn.ge; simp only; omega)

namespace Gn
def q (n : Gn) : Nat := n.K + n.M
def fs (n : Gn) : Nat := 4 + 2 * n.W
def tot (n : Gn) : Nat := n.fs + 2 * (n.S * n.q)
def fg (n : Gn) : Nat := 1 + n.W
def grp (n : Gn) : Nat := n.fg + 2 * n.S
def cnt (n : Gn) (i : Nat) : Nat := if i = 0 then 4 else if i < n.fg then 2 else n.q
def brs (n : Gn) (i : Nat) : Nat := if i = 0 then 3 else if i < n.fg then 1 else n.M
def sec (n : Gn) (i p : Nat) : Nat := if i = 0 then p else if i < n.fg then 4 + p * n.W + (i - 1) else n.fs + (i - n.fg) * n.q + p
def ofA (n : Gn) (a : Nat) : Nat := if a < 4 then 0 else if a < n.fs then 1 + (a - 4) % n.W else n.fg + (a - n.fs) / n.q
def plA (n : Gn) (a : Nat) : Nat := if a < 4 then a else if a < n.fs then (a - 4) / n.W else (a - n.fs) % n.q
theorem Ok.q1 {n : Gn} (h : n.Ok) : 2 ≤ n.q := by have := h.k1; have := h.m1; unfold q; omega
theorem Ok.q2 {n : Gn} (h : n.Ok) : n.q ≤ 24 := by have := h.k2; have := h.m2; unfold q; omega
theorem Ok.t2 {n : Gn} (h : n.Ok) : n.S * n.q ≤ 768 := Nat.le_trans (Nat.mul_le_mul h.s2 h.q2) (by omega)
theorem Ok.fs2 {n : Gn} (h : n.Ok) : n.fs ≤ 1028 := by have := h.w2; unfold fs; omega
theorem Ok.tot2 {n : Gn} (h : n.Ok) : n.tot ≤ 2564 := by have := h.fs2; have := h.t2; unfold tot; omega
theorem stripe_lt {n : Gn} {s p : Nat} (hs : s < 2 * n.S) (hp : p < n.q) : s * n.q + p < 2 * (n.S * n.q) := by
  have h1 : (s + 1) * n.q ≤ (2 * n.S) * n.q := Nat.mul_le_mul_right _ hs
  rw [Nat.add_mul, Nat.one_mul] at h1
  rw [← Nat.mul_assoc]
  omega
theorem slot_lt {n : Gn} {p : Nat} (hp : p < 2) : p * n.W ≤ n.W := by
  have : p = 0 ∨ p = 1 := by omega
  rcases this with rfl | rfl <;> omega
theorem sec_lt {n : Gn} (h : n.Ok) {i p : Nat} (hi : i < n.grp) (hp : p < n.cnt i) : n.sec i p < n.tot := by
  unfold cnt at hp
  unfold sec
  have := h.w1
  have hf : n.fs ≤ n.tot := Nat.le_add_right _ _
  by_cases e : i = 0
  · rw [if_pos e] at hp ⊢
    unfold fs at hf
    omega
  · rw [if_neg e] at hp ⊢
    by_cases e2 : i < n.fg
    · rw [if_pos e2] at hp ⊢
      have := slot_lt (n := n) hp
      unfold fs at hf
      unfold fg at e2
      omega
    · rw [if_neg e2] at hp ⊢
      have := stripe_lt (n := n) (s := i - n.fg) (p := p) (by unfold grp at hi; omega) hp
      unfold tot
      omega
theorem of_sec {n : Gn} (h : n.Ok) {i p : Nat} (hi : i < n.grp) (hp : p < n.cnt i) : n.ofA (n.sec i p) = i ∧ n.plA (n.sec i p) = p := by
  unfold cnt at hp
  have hw := h.w1
  have hq := h.q1
  by_cases e : i = 0
  · have es : n.sec i p = p := by unfold sec; rw [if_pos e]
    rw [if_pos e] at hp
    rw [es]
    unfold ofA plA
    rw [if_pos hp, if_pos hp]
    exact ⟨e.symm, rfl⟩
  · rw [if_neg e] at hp
    by_cases e2 : i < n.fg
    · rw [if_pos e2] at hp
      have es : n.sec i p = 4 + p * n.W + (i - 1) := by unfold sec; rw [if_neg e, if_pos e2]
      have := slot_lt (n := n) hp
      have l1 : i - 1 < n.W := by unfold fg at e2; omega
      have c1 : ¬ 4 + p * n.W + (i - 1) < 4 := by omega
      have c2 : 4 + p * n.W + (i - 1) < n.fs := by unfold fs; omega
      have c3 : 4 + p * n.W + (i - 1) - 4 = (i - 1) + n.W * p := by rw [Nat.mul_comm n.W p]; omega
      rw [es]
      unfold ofA plA
      rw [if_neg c1, if_pos c2, if_neg c1, if_pos c2, c3, Nat.add_mul_mod_self_left, Nat.mod_eq_of_lt l1, Nat.add_mul_div_left _ _ (by omega), Nat.div_eq_of_lt l1]
      omega
    · rw [if_neg e2] at hp
      have es : n.sec i p = n.fs + (i - n.fg) * n.q + p := by unfold sec; rw [if_neg e, if_neg e2]
      have hf : 4 ≤ n.fs := by unfold fs; omega
      have c1 : ¬ n.fs + (i - n.fg) * n.q + p < 4 := by omega
      have c2 : ¬ n.fs + (i - n.fg) * n.q + p < n.fs := by omega
      have c3 : n.fs + (i - n.fg) * n.q + p - n.fs = p + n.q * (i - n.fg) := by rw [Nat.mul_comm n.q]; omega
      rw [es]
      unfold ofA plA
      rw [if_neg c1, if_neg c2, if_neg c1, if_neg c2, c3, Nat.add_mul_mod_self_left, Nat.mod_eq_of_lt hp, Nat.add_mul_div_left _ _ (by omega), Nat.div_eq_of_lt hp]
      omega
theorem of_lt {n : Gn} (h : n.Ok) {a : Nat} (ha : a < n.tot) : n.ofA a < n.grp ∧ n.plA a < n.cnt (n.ofA a) ∧ n.sec (n.ofA a) (n.plA a) = a := by
  have hw := h.w1
  have hq := h.q1
  by_cases c1 : a < 4
  · have e1 : n.ofA a = 0 := by unfold ofA; rw [if_pos c1]
    have e2 : n.plA a = a := by unfold plA; rw [if_pos c1]
    rw [e1, e2]
    unfold cnt sec grp fg
    rw [if_pos rfl, if_pos rfl]
    exact ⟨by omega, c1, rfl⟩
  · by_cases c2 : a < n.fs
    · have e1 : n.ofA a = 1 + (a - 4) % n.W := by unfold ofA; rw [if_neg c1, if_pos c2]
      have e2 : n.plA a = (a - 4) / n.W := by unfold plA; rw [if_neg c1, if_pos c2]
      have m1 : (a - 4) % n.W < n.W := Nat.mod_lt _ (by omega)
      have m2 : (a - 4) / n.W < 2 := Nat.div_lt_of_lt_mul (by unfold fs at c2; rw [Nat.mul_comm]; omega)
      have m3 := Nat.div_add_mod (a - 4) n.W
      rw [e1, e2]
      generalize (a - 4) / n.W = D at m2 m3 ⊢
      generalize (a - 4) % n.W = E at m1 m3 ⊢
      have l1 : ¬ 1 + E = 0 := by omega
      have l2 : 1 + E < n.fg := by unfold fg; omega
      unfold cnt sec
      rw [if_neg l1, if_pos l2, if_neg l1, if_pos l2]
      refine ⟨by unfold grp; omega, m2, ?_⟩
      rw [Nat.mul_comm D n.W]
      omega
    · have e1 : n.ofA a = n.fg + (a - n.fs) / n.q := by unfold ofA; rw [if_neg c1, if_neg c2]
      have e2 : n.plA a = (a - n.fs) % n.q := by unfold plA; rw [if_neg c1, if_neg c2]
      have m1 : (a - n.fs) % n.q < n.q := Nat.mod_lt _ (by omega)
      have m2 : (a - n.fs) / n.q < 2 * n.S := Nat.div_lt_of_lt_mul (by
        unfold tot at ha
        rw [Nat.mul_comm n.q (2 * n.S), Nat.mul_assoc]
        omega)
      have m3 := Nat.div_add_mod (a - n.fs) n.q
      rw [e1, e2]
      generalize (a - n.fs) / n.q = D at m2 m3 ⊢
      generalize (a - n.fs) % n.q = E at m1 m3 ⊢
      have l1 : ¬ n.fg + D = 0 := by unfold fg; omega
      have l2 : ¬ n.fg + D < n.fg := by omega
      unfold cnt sec
      rw [if_neg l1, if_neg l2, if_neg l1, if_neg l2]
      refine ⟨by unfold grp; omega, m1, ?_⟩
      rw [Nat.add_sub_cancel_left, Nat.mul_comm D n.q]
      omega
theorem sec_mono {n : Gn} (h : n.Ok) {i p r : Nat} (hpr : p < r) (hr : r < n.cnt i) : n.sec i p < n.sec i r := by
  unfold cnt at hr
  unfold sec
  have hw := h.w1
  by_cases e : i = 0
  · rw [if_pos e, if_pos e]; exact hpr
  · rw [if_neg e] at hr
    rw [if_neg e, if_neg e]
    by_cases e2 : i < n.fg
    · rw [if_pos e2] at hr
      rw [if_pos e2, if_pos e2]
      obtain ⟨rfl, rfl⟩ : p = 0 ∧ r = 1 := by omega
      omega
    · rw [if_neg e2, if_neg e2]; omega
/-! ### the sectors of a group, counted one behind the other -/
structure Upto (n : Gn) (i a c : Nat) : Prop where
  le : c ≤ n.cnt i
  low : ∀ p, p < c → n.sec i p < a
  high : c < n.cnt i → a ≤ n.sec i c
theorem Upto.start (n : Gn) (i : Nat) : Upto n i 0 0 := ⟨Nat.zero_le _, fun p h => absurd h (Nat.not_lt_zero p), fun _ => Nat.zero_le _⟩
theorem Upto.at {n : Gn} (h : n.Ok) {i a c : Nat} (u : Upto n i a c) (ha : a < n.tot) (e : n.ofA a = i) : n.plA a = c ∧ c < n.cnt i ∧ n.sec i c = a := by
  obtain ⟨_, h2, h3⟩ := of_lt h ha
  rw [e] at h2 h3
  have h4 : ¬ n.plA a < c := fun q => by have := u.low _ q; omega
  have h5 : c < n.cnt i := by omega
  have h6 := u.high h5
  by_cases q : c < n.plA a
  · have := sec_mono h q h2; omega
  · have e2 : n.plA a = c := by omega
    exact ⟨e2, h5, by rw [← e2]; exact h3⟩
theorem Upto.miss {n : Gn} (h : n.Ok) {i a c : Nat} (u : Upto n i a c) (hi : i < n.grp) (e : ¬ n.ofA a = i) : Upto n i (a + 1) c := by
  refine ⟨u.le, fun p hp => Nat.lt_succ_of_lt (u.low p hp), fun hc => ?_⟩
  have h1 := u.high hc
  have h2 : ¬ n.sec i c = a := fun q => e (by rw [← q]; exact (of_sec h hi hc).1)
  omega
theorem Upto.full {n : Gn} (h : n.Ok) {i c : Nat} (u : Upto n i n.tot c) (hi : i < n.grp) : c = n.cnt i := by
  by_cases q : c < n.cnt i
  · have := u.high q
    have := sec_lt h hi q
    omega
  · have := u.le; omega
/-! ### sectors that were seen, group by group, member by member -/
def seenN (n : Gn) (i k a : Nat) : Nat := if n.ofA a < i ∨ (n.ofA a = i ∧ n.plA a < k) then 1 else 0
end Gn
/-! ### a geometry in a variable -/
structure GeR (w w1 : World) (H : Nat) (g : Ge) : Prop where
  al : w.alloc (.cells (geC g) 23) = w1
  sz : w.heap.size = H
  cx : w1.heap[H]? = some (.cells (geC g) 23 (0, 0))
  ch : Ch (fun _ => False) w w1
theorem geR (w : World) (g : Ge) : ∃ w1 H, GeR w w1 H g := ⟨_, _, rfl, rfl, heap_alloc_new w _, (Ch.refl _ w).alloc _ _⟩
/-- A geometry stands in a variable. -/
structure GeX (w : World) (H : Nat) (g : Ge) : Prop where
  x0 : w.cell? ⟨H, 0, none⟩ = some (.int .i64 g.wal)
  x1 : w.cell? ⟨H, 1, none⟩ = some (.int .i64 g.st)
  x2 : w.cell? ⟨H, 2, none⟩ = some (.int .i64 g.k)
  x3 : w.cell? ⟨H, 3, none⟩ = some (.int .i64 g.m)
theorem GeR.x {w w1 : World} {H : Nat} {g : Ge} (h : GeR w w1 H g) : GeX w1 H g := ⟨blk_cell h.cx, blk_cell h.cx, blk_cell h.cx, blk_cell h.cx⟩
theorem GeX.gr {w w' : World} {H : Nat} {g : Ge} (h : GeX w H g) (k : Ch (fun _ => False) w w') : GeX w' H g := ⟨k.cell h.x0 (fun f => f), k.cell h.x1 (fun f => f), k.cell h.x2 (fun f => f), k.cell h.x3 (fun f => f)⟩
theorem GeX.off {S : Nat → Prop} {w w' : World} {H : Nat} {g : Ge} (h : GeX w H g) (k : Ch S w w') (hS : ¬ S H) : GeX w' H g := ⟨k.cell h.x0 hS, k.cell h.x1 hS, k.cell h.x2 hS, k.cell h.x3 hS⟩
theorem GeX.drew {w : World} {H : Nat} {g : Ge} (h : GeX w H g) : GeX w.drew H g := h.gr ((Ch.refl _ w).drew)
end Go.Proofs.YteleknojohnlbaaGreat
namespace Go.Proofs.YteleknojohnlbaaGreat
open Go.ChangeShapes Go.WideShapes Go.ChangeAt Go.RowKit Go.Deep
set_option linter.unusedVariables false
set_option maxRecDepth 100000

theorem under_geo_int : Tryz.prog.underlying /-t-/3 = some (.int .i64) := by kernel_rfl
theorem cellsGeo : Tryz.prog.cellsOf 23 = 4 := by kernel_rfl
theorem open_geo {H : Type} {enc : TypeId × Value → H} {W : World} {v : Value} {d : DataW H} {p : List MemPlace} {b0 : Nat} {r : Reach} (hv : Value.okWide Tryz.prog W r b0 23 v) (h : DataW.Trod enc Tryz.prog W 0 (fun _ => true) true 23 v d p) : ∃ g : Ge, GeIs g ∧ v = .agg (geC g) := by
  simp only [Value.okWide, Tryz.underlying23] at hv
  obtain ⟨xs, rfl, h2, _⟩ := hv
  obtain ⟨fuel, hf⟩ := h
  obtain ⟨ys, n', hn', hy, hlen', hyl, hfl⟩ := DataW.trod_struct Tryz.underlying23 hf
  obtain ⟨l⟩ := xs
  have hlen4 : l.length = 4 := by
    have : l.length = Tryz.prog.cellsOf 23 := by simpa using h2
    exact this.trans cellsGeo
  match l, hlen4 with
  | [x0, x1, x2, x3], _ =>
    have g0 : DataW.trod enc Tryz.prog W 0 (fun _ => true) true n' /-t-/3 [x0] = ys[0]? := hfl 0 _ rfl
    have g1 : DataW.trod enc Tryz.prog W 0 (fun _ => true) true n' /-t-/3 [x1] = ys[1]? := hfl 1 _ rfl
    have g2 : DataW.trod enc Tryz.prog W 0 (fun _ => true) true n' /-t-/3 [x2] = ys[2]? := hfl 2 _ rfl
    have g3 : DataW.trod enc Tryz.prog W 0 (fun _ => true) true n' /-t-/3 [x3] = ys[3]? := hfl 3 _ rfl
    have hys : ys.length = 4 := hyl
    match ys, hys with
    | [y0, y1, y2, y3], _ =>
      obtain ⟨a0, e0, _, w0⟩ := DataW.trod_int under_geo_int g0
      obtain ⟨a1, e1, _, w1⟩ := DataW.trod_int under_geo_int g1
      obtain ⟨a2, e2, _, w2⟩ := DataW.trod_int under_geo_int g2
      obtain ⟨a3, e3, _, w3⟩ := DataW.trod_int under_geo_int g3
      simp only [List.cons.injEq, and_true] at e0 e1 e2 e3
      refine ⟨⟨a0, a1, a2, a3⟩, ⟨b64 w0, b64 w1, b64 w2, b64 w3⟩, ?_⟩
      rw [e0, e1, e2, e3]
      rfl
end Go.Proofs.YteleknojohnlbaaGreat
namespace Go.Proofs.YteleknojohnlbaaGreat
open Go.RowKit
set_option linter.unusedVariables false
set_option maxRecDepth 100000

def eqB (n m : Nat) (z y : Nat → Nat) : Bool := decide (n = m ∧ ∀ c, c < n → z c = y c)
/-! ### Same -/
theorem RowV.at {w : World} {A : Option Addr} {n C : Nat} {z : Nat → Nat} (h : RowV w (.slice A n C) n z) (hn : 0 < n) : ∃ b o, A = some ⟨b, o, none⟩ ∧ ∀ c, c < n → w.cell? ⟨b, o + c, none⟩ = some (.int .u8 (z c : Int)) := by
  obtain ⟨_, _, e, _, h3⟩ := h
  injection e with e _ _
  subst e
  obtain ⟨b, o, rfl, h4⟩ := h3 hn
  exact ⟨b, o, rfl, fun c hc => (h4 c hc).1⟩
set_option maxHeartbeats 800000 in
set_option maxRecDepth 100000 in
theorem same_any (A B : Option Addr) (n m C D : Nat) (z y : Nat → Nat) (w : World) (h : RowV w (.slice A n C) n z) (h2 : RowV w (.slice B m D) m y) : Calls Tryz.prog 14 #[.slice A n C, .slice B m D] w (Qu (.bool (eqB n m z y)) w) := by
  obtain ⟨_, _, _, hl, _⟩ := id h
  have hl1 := hl.1
  obtain ⟨_, _, _, hm, _⟩ := id h2
  have hm1 := hm.1
  clear hl hm
  by_cases e : n = m
  · subst e
    have t1 : ((n : Int) != (n : Int)) = false := by simp
    have HV := Lib.hid h
    have HV2 := Lib.hid h2
    clear h h2
    go_enter Tryz.func14, Tryz.ntmps14
    go_wp2
    go_loopw [5] (fun i wr => ∃ k : Nat, k ≤ n ∧ i = .int .i64 k ∧ (∃ d, wr = w.drewN d) ∧ Hid (∀ c, c < k → z c = y c)) (fun i _ => n - (intOf i).toNat)
    case atStart => exact ⟨0, Nat.zero_le _, rfl, ⟨0, rfl⟩, fun c hc => absurd hc (Nat.not_lt_zero c)⟩
    case round =>
      obtain ⟨k, hk, rfl, ⟨d, rfl⟩, HK⟩ := hrel
      by_cases hlt : k < n
      · obtain ⟨b, o, rfl, hc⟩ := HV.out.at (by omega)
        obtain ⟨b2, o2, rfl, hc2⟩ := HV2.out.at (by omega)
        have c1 := hc k hlt
        have c2 := hc2 k hlt
        have i1 : (0 : Int) ≤ (k : Int) := Int.natCast_nonneg _
        have i2 : (k : Int) < (n : Int) := by omega
        clear hc hc2
        by_cases q : z k = y k
        · have t2 : ((z k : Int) != (y k : Int)) = false := by simp [q]
          have HS : Hid (∀ c, c < k + 1 → z c = y c) := fun c hc => by
            by_cases e : c = k
            · rw [e]; exact q
            · exact HK c (by omega)
          clear q
          go_wp2
          go_quiet (fail)
          go_wp2
          go_roundw
          case rel => exact ⟨k + 1, by omega, by go_num, ⟨_, rfl⟩, HS⟩
          case measure => simp [intOf]; omega
        · have t2 : ((z k : Int) != (y k : Int)) = true := by simp; omega
          have HS := Lib.hid (show eqB n n z y = false from decide_eq_false fun h => q (h.2 k hlt))
          clear q
          go_wp2
          go_quiet (fail)
          go_wp2
          go_ret
          exact ⟨ret_bool HS.out.symm, _, World.drewN_drewN _ _ _⟩
      · obtain rfl : k = n := by omega
        have HS := Lib.hid (show eqB k k z y = true from decide_eq_true ⟨rfl, HK.out⟩)
        go_wp2
        go_ret
        exact ⟨ret_bool HS.out.symm, _, rfl⟩
  · have t1 : ((n : Int) != (m : Int)) = true := by simp; omega
    have HS := Lib.hid (show eqB n m z y = false from decide_eq_false fun h => e h.1)
    clear e h h2
    go_enter Tryz.func14, Tryz.ntmps14
    go_wp2
    go_ret
    exact ⟨ret_bool HS.out.symm, 0, rfl⟩
end Go.Proofs.YteleknojohnlbaaGreat
