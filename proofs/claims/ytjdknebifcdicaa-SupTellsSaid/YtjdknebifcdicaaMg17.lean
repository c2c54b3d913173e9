/-
  Geometries, plainly: how many sectors and groups there are, which sectors a group has, where a sector is; the counting that the document does. geo.within, shares, firstShare, firstStripeGroup, end, May, Sectors, Room, Groups, walked.
-/
import Derived.Test.YtjdknebifcdicaaMg2
namespace Go.Proofs.Ytjdknebifcdicaa
open Go.RowKit
set_option linter.unusedVariables false
set_option maxRecDepth 100000

/-! ### a geometry -/
structure Ge where
  wal : Int
  st : Int
  k : Int
  m : Int
def geC (g : Ge) : Array Value := #[.int .i64 g.wal, .int .i64 g.st, .int .i64 g.k, .int .i64 g.m]
def G64 (x : Int) : Prop := -9223372036854775808 ≤ x ∧ x ≤ 9223372036854775807
structure GeIs (g : Ge) : Prop where
  wal : G64 g.wal
  st : G64 g.st
  k : G64 g.k
  m : G64 g.m
def inB (n a b : Int) : Bool := decide (a ≤ n ∧ n ≤ b)
theorem inB_true {n a b : Int} : inB n a b = true ↔ a ≤ n ∧ n ≤ b := decide_eq_true_iff
def mayG (g : Ge) : Bool := inB g.wal 8 512 && (inB g.st 1 32 && (inB g.k 1 16 && inB g.m 1 8))
/-- One that may be. -/
structure Gn where
  W : Nat
  S : Nat
  K : Nat
  M : Nat
structure Gn.Ok (n : Gn) : Prop where
  w1 : 8 ≤ n.W
  w2 : n.W ≤ 512
  s1 : 1 ≤ n.S
  s2 : n.S ≤ 32
  k1 : 1 ≤ n.K
  k2 : n.K ≤ 16
  m1 : 1 ≤ n.M
  m2 : n.M ≤ 8
def Gn.ge (n : Gn) : Ge := ⟨n.W, n.S, n.K, n.M⟩
theorem may_parts {g : Ge} (h : mayG g = true) : (8 ≤ g.wal ∧ g.wal ≤ 512) ∧ (1 ≤ g.st ∧ g.st ≤ 32) ∧ (1 ≤ g.k ∧ g.k ≤ 16) ∧ (1 ≤ g.m ∧ g.m ≤ 8) := by
  unfold mayG at h
  simp only [Bool.and_eq_true, inB_true] at h
  exact h
theorem may_nat {g : Ge} (h : mayG g = true) : ∃ n : Gn, n.Ok ∧ g = n.ge := by
  obtain ⟨⟨a1, a2⟩, ⟨b1, b2⟩, ⟨c1, c2⟩, ⟨d1, d2⟩⟩ := may_parts h
  obtain ⟨w, s, k, m⟩ := g
  simp only at *
  refine ⟨⟨w.toNat, s.toNat, k.toNat, m.toNat⟩, ⟨by simp only; omega, by simp only; omega, by simp only; omega, by simp only; omega, by simp only; omega, by simp only; omega, by simp only; omega, by simp only; omega⟩, ?_⟩
  unfold Gn.ge
  simp only [Ge.mk.injEq]
  omega
theorem ok_may {n : Gn} (h : n.Ok) : mayG n.ge = true := by
  unfold mayG
  simp only [Bool.and_eq_true, inB_true]
  have := h.w1
  have := h.w2
  have := h.s1
  have := h.s2
  have := h.k1
  have := h.k2
  have := h.m1
  have := h.m2
  refine ⟨?_, ?_, ?_, ?_⟩ <;> (unfold Gn.ge; simp only; omega)

namespace Gn
def q (n : Gn) : Nat := n.K + n.M
def fs (n : Gn) : Nat := 4 + 2 * n.W
def tot (n : Gn) : Nat := n.fs + 2 * (n.S * n.q)
def fg (n : Gn) : Nat := 1 + n.W
def grp (n : Gn) : Nat := n.fg + 2 * n.S
def cnt (n : Gn) (i : Nat) : Nat := if i = 0 then 4 else if i < n.fg then 2 else n.q
def brs (n : Gn) (i : Nat) : Nat := if i = 0 then 3 else if i < n.fg then 1 else n.M
def sec (n : Gn) (i p : Nat) : Nat := if i = 0 then p else if i < n.fg then 4 + p * n.W + (i - 1) else n.fs + (i - n.fg) * n.q + p
def ofA (n : Gn) (a : Nat) : Nat := if a < 4 then 0 else if a < n.fs then 1 + (a - 4) % n.W else n.fg + (a - n.fs) / n.q
def plA (n : Gn) (a : Nat) : Nat := if a < 4 then a else if a < n.fs then (a - 4) / n.W else (a - n.fs) % n.q
theorem Ok.q1 {n : Gn} (h : n.Ok) : 2 ≤ n.q := by have := h.k1; have := h.m1; unfold q; omega
theorem Ok.q2 {n : Gn} (h : n.Ok) : n.q ≤ 24 := by have := h.k2; have := h.m2; unfold q; omega
theorem Ok.t2 {n : Gn} (h : n.Ok) : n.S * n.q ≤ 768 := Nat.le_trans (Nat.mul_le_mul h.s2 h.q2) (by omega)
theorem Ok.fs2 {n : Gn} (h : n.Ok) : n.fs ≤ 1028 := by have := h.w2; unfold fs; omega
theorem Ok.tot2 {n : Gn} (h : n.Ok) : n.tot ≤ 2564 := by have := h.fs2; have := h.t2; unfold tot; omega
theorem Ok.grp2 {n : Gn} (h : n.Ok) : n.grp ≤ 577 := by have := h.w2; have := h.s2; unfold grp fg; omega
theorem cnt_le {n : Gn} (h : n.Ok) (i : Nat) : n.cnt i ≤ 24 := by have := h.q2; unfold cnt; split; omega; split <;> omega
theorem cnt_pos {n : Gn} (h : n.Ok) (i : Nat) : 2 ≤ n.cnt i := by have := h.q1; unfold cnt; split; omega; split <;> omega
theorem stripe_lt {n : Gn} {s p : Nat} (hs : s < 2 * n.S) (hp : p < n.q) : s * n.q + p < 2 * (n.S * n.q) := by
  have h1 : (s + 1) * n.q ≤ (2 * n.S) * n.q := Nat.mul_le_mul_right _ hs
  rw [Nat.add_mul, Nat.one_mul] at h1
  rw [← Nat.mul_assoc]
  omega
theorem slot_lt {n : Gn} {p : Nat} (hp : p < 2) : p * n.W ≤ n.W := by
  have : p = 0 ∨ p = 1 := by omega
  rcases this with rfl | rfl <;> omega
theorem sec_lt {n : Gn} (h : n.Ok) {i p : Nat} (hi : i < n.grp) (hp : p < n.cnt i) : n.sec i p < n.tot := by
  unfold cnt at hp
  unfold sec
  have := h.w1
  have hf : n.fs ≤ n.tot := Nat.le_add_right _ _
  by_cases e : i = 0
  · rw [if_pos e] at hp ⊢
    unfold fs at hf
    omega
  · rw [if_neg e] at hp ⊢
    by_cases e2 : i < n.fg
    · rw [if_pos e2] at hp ⊢
      have := slot_lt (n := n) hp
      unfold fs at hf
      unfold fg at e2
      omega
    · rw [if_neg e2] at hp ⊢
      have := stripe_lt (n := n) (s := i - n.fg) (p := p) (by unfold grp at hi; omega) hp
      unfold tot
      omega
theorem of_sec {n : Gn} (h : n.Ok) {i p : Nat} (hi : i < n.grp) (hp : p < n.cnt i) : n.ofA (n.sec i p) = i ∧ n.plA (n.sec i p) = p := by
  unfold cnt at hp
  have hw := h.w1
  have hq := h.q1
  by_cases e : i = 0
  · have es : n.sec i p = p := by unfold sec; rw [if_pos e]
    rw [if_pos e] at hp
    rw [es]
    unfold ofA plA
    rw [if_pos hp, if_pos hp]
    exact ⟨e.symm, rfl⟩
  · rw [if_neg e] at hp
    by_cases e2 : i < n.fg
    · rw [if_pos e2] at hp
      have es : n.sec i p = 4 + p * n.W + (i - 1) := by unfold sec; rw [if_neg e, if_pos e2]
      have := slot_lt (n := n) hp
      have l1 : i - 1 < n.W := by unfold fg at e2; omega
      have c1 : ¬ 4 + p * n.W + (i - 1) < 4 := by omega
      have c2 : 4 + p * n.W + (i - 1) < n.fs := by unfold fs; omega
      have c3 : 4 + p * n.W + (i - 1) - 4 = (i - 1) + n.W * p := by rw [Nat.mul_comm n.W p]; omega
      rw [es]
      unfold ofA plA
      rw [if_neg c1, if_pos c2, if_neg c1, if_pos c2, c3, Nat.add_mul_mod_self_left, Nat.mod_eq_of_lt l1, Nat.add_mul_div_left _ _ (by omega), Nat.div_eq_of_lt l1]
      omega
    · rw [if_neg e2] at hp
      have es : n.sec i p = n.fs + (i - n.fg) * n.q + p := by unfold sec; rw [if_neg e, if_neg e2]
      have hf : 4 ≤ n.fs := by unfold fs; omega
      have c1 : ¬ n.fs + (i - n.fg) * n.q + p < 4 := by omega
      have c2 : ¬ n.fs + (i - n.fg) * n.q + p < n.fs := by omega
      have c3 : n.fs + (i - n.fg) * n.q + p - n.fs = p + n.q * (i - n.fg) := by rw [Nat.mul_comm n.q]; omega
      rw [es]
      unfold ofA plA
      rw [if_neg c1, if_neg c2, if_neg c1, if_neg c2, c3, Nat.add_mul_mod_self_left, Nat.mod_eq_of_lt hp, Nat.add_mul_div_left _ _ (by omega), Nat.div_eq_of_lt hp]
      omega
theorem of_lt {n : Gn} (h : n.Ok) {a : Nat} (ha : a < n.tot) : n.ofA a < n.grp ∧ n.plA a < n.cnt (n.ofA a) ∧ n.sec (n.ofA a) (n.plA a) = a := by
  have hw := h.w1
  have hq := h.q1
  by_cases c1 : a < 4
  · have e1 : n.ofA a = 0 := by unfold ofA; rw [if_pos c1]
    have e2 : n.plA a = a := by unfold plA; rw [if_pos c1]
    rw [e1, e2]
    unfold cnt sec grp fg
    rw [if_pos rfl, if_pos rfl]
    exact ⟨by omega, c1, rfl⟩
  · by_cases c2 : a < n.fs
    · have e1 : n.ofA a = 1 + (a - 4) % n.W := by unfold ofA; rw [if_neg c1, if_pos c2]
      have e2 : n.plA a = (a - 4) / n.W := by unfold plA; rw [if_neg c1, if_pos c2]
      have m1 : (a - 4) % n.W < n.W := Nat.mod_lt _ (by omega)
      have m2 : (a - 4) / n.W < 2 := Nat.div_lt_of_lt_mul (by unfold fs at c2; rw [Nat.mul_comm]; omega)
      have m3 := Nat.div_add_mod (a - 4) n.W
      rw [e1, e2]
      generalize (a - 4) / n.W = D at m2 m3 ⊢
      generalize (a - 4) % n.W = E at m1 m3 ⊢
      have l1 : ¬ 1 + E = 0 := by omega
      have l2 : 1 + E < n.fg := by unfold fg; omega
      unfold cnt sec
      rw [if_neg l1, if_pos l2, if_neg l1, if_pos l2]
      refine ⟨by unfold grp; omega, m2, ?_⟩
      rw [Nat.mul_comm D n.W]
      omega
    · have e1 : n.ofA a = n.fg + (a - n.fs) / n.q := by unfold ofA; rw [if_neg c1, if_neg c2]
      have e2 : n.plA a = (a - n.fs) % n.q := by unfold plA; rw [if_neg c1, if_neg c2]
      have m1 : (a - n.fs) % n.q < n.q := Nat.mod_lt _ (by omega)
      have m2 : (a - n.fs) / n.q < 2 * n.S := Nat.div_lt_of_lt_mul (by
        unfold tot at ha
        rw [Nat.mul_comm n.q (2 * n.S), Nat.mul_assoc]
        omega)
      have m3 := Nat.div_add_mod (a - n.fs) n.q
      rw [e1, e2]
      generalize (a - n.fs) / n.q = D at m2 m3 ⊢
      generalize (a - n.fs) % n.q = E at m1 m3 ⊢
      have l1 : ¬ n.fg + D = 0 := by unfold fg; omega
      have l2 : ¬ n.fg + D < n.fg := by omega
      unfold cnt sec
      rw [if_neg l1, if_neg l2, if_neg l1, if_neg l2]
      refine ⟨by unfold grp; omega, m1, ?_⟩
      rw [Nat.add_sub_cancel_left, Nat.mul_comm D n.q]
      omega
theorem sec_mono {n : Gn} (h : n.Ok) {i p r : Nat} (hpr : p < r) (hr : r < n.cnt i) : n.sec i p < n.sec i r := by
  unfold cnt at hr
  unfold sec
  have hw := h.w1
  by_cases e : i = 0
  · rw [if_pos e, if_pos e]; exact hpr
  · rw [if_neg e] at hr
    rw [if_neg e, if_neg e]
    by_cases e2 : i < n.fg
    · rw [if_pos e2] at hr
      rw [if_pos e2, if_pos e2]
      obtain ⟨rfl, rfl⟩ : p = 0 ∧ r = 1 := by omega
      omega
    · rw [if_neg e2, if_neg e2]; omega
/-! ### the sectors of a group, counted one behind the other -/
structure Upto (n : Gn) (i a c : Nat) : Prop where
  le : c ≤ n.cnt i
  low : ∀ p, p < c → n.sec i p < a
  high : c < n.cnt i → a ≤ n.sec i c
theorem Upto.start (n : Gn) (i : Nat) : Upto n i 0 0 := ⟨Nat.zero_le _, fun p h => absurd h (Nat.not_lt_zero p), fun _ => Nat.zero_le _⟩
theorem Upto.at {n : Gn} (h : n.Ok) {i a c : Nat} (u : Upto n i a c) (ha : a < n.tot) (e : n.ofA a = i) : n.plA a = c ∧ c < n.cnt i ∧ n.sec i c = a := by
  obtain ⟨_, h2, h3⟩ := of_lt h ha
  rw [e] at h2 h3
  have h4 : ¬ n.plA a < c := fun q => by have := u.low _ q; omega
  have h5 : c < n.cnt i := by omega
  have h6 := u.high h5
  by_cases q : c < n.plA a
  · have := sec_mono h q h2; omega
  · have e2 : n.plA a = c := by omega
    exact ⟨e2, h5, by rw [← e2]; exact h3⟩
theorem Upto.hit {n : Gn} (h : n.Ok) {i a c : Nat} (u : Upto n i a c) (ha : a < n.tot) (e : n.ofA a = i) : Upto n i (a + 1) (c + 1) := by
  obtain ⟨_, h5, h6⟩ := u.at h ha e
  refine ⟨h5, fun p hp => ?_, fun hc => ?_⟩
  · by_cases q : p = c
    · rw [q, h6]; omega
    · have := u.low p (by omega); omega
  · have := sec_mono h (Nat.lt_succ_self c) hc
    rw [h6] at this
    exact this
theorem Upto.miss {n : Gn} (h : n.Ok) {i a c : Nat} (u : Upto n i a c) (hi : i < n.grp) (e : ¬ n.ofA a = i) : Upto n i (a + 1) c := by
  refine ⟨u.le, fun p hp => Nat.lt_succ_of_lt (u.low p hp), fun hc => ?_⟩
  have h1 := u.high hc
  have h2 : ¬ n.sec i c = a := fun q => e (by rw [← q]; exact (of_sec h hi hc).1)
  omega
theorem Upto.full {n : Gn} (h : n.Ok) {i c : Nat} (u : Upto n i n.tot c) (hi : i < n.grp) : c = n.cnt i := by
  by_cases q : c < n.cnt i
  · have := u.high q
    have := sec_lt h hi q
    omega
  · have := u.le; omega
/-! ### sectors that were seen, group by group, member by member -/
def seenN (n : Gn) (i k a : Nat) : Nat := if n.ofA a < i ∨ (n.ofA a = i ∧ n.plA a < k) then 1 else 0
theorem seen_start (n : Gn) (a : Nat) : seenN n 0 0 a = 0 := by unfold seenN; rw [if_neg (by omega)]
theorem seen_next {n : Gn} (h : n.Ok) {i a : Nat} (ha : a < n.tot) : seenN n i (n.cnt i) a = seenN n (i + 1) 0 a := by
  obtain ⟨_, h2, _⟩ := of_lt h ha
  unfold seenN
  by_cases q : n.ofA a < i ∨ n.ofA a = i
  · rw [if_pos (by
      rcases q with q | q
      · exact Or.inl q
      · exact Or.inr ⟨q, by rw [← q]; exact h2⟩), if_pos (by omega)]
  · rw [if_neg (by omega), if_neg (by omega)]
theorem seen_all {n : Gn} (h : n.Ok) {a : Nat} (ha : a < n.tot) : seenN n n.grp 0 a = 1 := by
  obtain ⟨h1, _⟩ := of_lt h ha
  unfold seenN; rw [if_pos (Or.inl h1)]
theorem seen_at {n : Gn} (h : n.Ok) {i k : Nat} (hi : i < n.grp) (hk : k < n.cnt i) : seenN n i k (n.sec i k) = 0 := by
  obtain ⟨e1, e2⟩ := of_sec h hi hk
  unfold seenN; rw [e1, e2, if_neg (by omega)]
theorem seen_step {n : Gn} (h : n.Ok) {i k a : Nat} (hi : i < n.grp) (hk : k < n.cnt i) (ha : a < n.tot) : seenN n i (k + 1) a = if a = n.sec i k then 1 else seenN n i k a := by
  obtain ⟨e1, e2⟩ := of_sec h hi hk
  obtain ⟨_, _, e3⟩ := of_lt h ha
  by_cases q : a = n.sec i k
  · rw [if_pos q]
    unfold seenN
    rw [q, e1, e2, if_pos (Or.inr ⟨rfl, Nat.lt_succ_self k⟩)]
  · rw [if_neg q]
    unfold seenN
    by_cases o : n.ofA a = i
    · have : ¬ n.plA a = k := fun e => q (by rw [← e, ← o]; exact e3.symm)
      by_cases l : n.plA a < k
      · rw [if_pos (by omega), if_pos (by omega)]
      · rw [if_neg (by omega), if_neg (by omega)]
    · by_cases l : n.ofA a < i
      · rw [if_pos (Or.inl l), if_pos (Or.inl l)]
      · rw [if_neg (by omega), if_neg (by omega)]
end Gn
#print axioms Gn.Upto.full
#print axioms Gn.seen_step

/-! ### a geometry in a variable -/
structure GeR (w w1 : World) (H : Nat) (g : Ge) : Prop where
  al : w.alloc (.cells (geC g) 23) = w1
  sz : w.heap.size = H
  cx : w1.heap[H]? = some (.cells (geC g) 23 (0, 0))
  ch : Ch (fun _ => False) w w1
theorem geR (w : World) (g : Ge) : ∃ w1 H, GeR w w1 H g := ⟨_, _, rfl, rfl, heap_alloc_new w _, (Ch.refl _ w).alloc _ _⟩
/-- A geometry stands in a variable. -/
structure GeX (w : World) (H : Nat) (g : Ge) : Prop where
  x0 : w.cell? ⟨H, 0, none⟩ = some (.int .i64 g.wal)
  x1 : w.cell? ⟨H, 1, none⟩ = some (.int .i64 g.st)
  x2 : w.cell? ⟨H, 2, none⟩ = some (.int .i64 g.k)
  x3 : w.cell? ⟨H, 3, none⟩ = some (.int .i64 g.m)
theorem GeR.x {w w1 : World} {H : Nat} {g : Ge} (h : GeR w w1 H g) : GeX w1 H g := ⟨blk_cell h.cx, blk_cell h.cx, blk_cell h.cx, blk_cell h.cx⟩
theorem GeX.gr {w w' : World} {H : Nat} {g : Ge} (h : GeX w H g) (k : Ch (fun _ => False) w w') : GeX w' H g := ⟨k.cell h.x0 (fun f => f), k.cell h.x1 (fun f => f), k.cell h.x2 (fun f => f), k.cell h.x3 (fun f => f)⟩
theorem GeX.off {S : Nat → Prop} {w w' : World} {H : Nat} {g : Ge} (h : GeX w H g) (k : Ch S w w') (hS : ¬ S H) : GeX w' H g := ⟨k.cell h.x0 hS, k.cell h.x1 hS, k.cell h.x2 hS, k.cell h.x3 hS⟩
theorem GeX.drew {w : World} {H : Nat} {g : Ge} (h : GeX w H g) : GeX w.drew H g := h.gr ((Ch.refl _ w).drew)
#print axioms GeX.gr
end Go.Proofs.Ytjdknebifcdicaa
namespace Go.Proofs.Ytjdknebifcdicaa
open Go.RowKit
set_option linter.unusedVariables false
set_option maxRecDepth 100000

set_option maxHeartbeats 400000 in
theorem within_any (n a b : Int) (w : World) : Calls Try.prog 62 #[.int .i64 n, .int .i64 a, .int .i64 b] w fun e w' => e = .returned (.bool (inB n a b)) ∧ w = w' := by
  by_cases h1 : a ≤ n
  · by_cases h2 : n ≤ b
    · have HE := Lib.hid (show inB n a b = true from inB_true.2 ⟨h1, h2⟩)
      have t1 : decide (a ≤ n) = true := decide_eq_true h1
      have t2 : decide (n ≤ b) = true := decide_eq_true h2
      clear h1 h2
      go_enter Try.func62, Try.ntmps62
      go_wp2
      go_ret
      exact ⟨ret_bool HE.out.symm, rfl⟩
    · have HE := Lib.hid (show inB n a b = false from decide_eq_false fun q => h2 q.2)
      have t1 : decide (a ≤ n) = true := decide_eq_true h1
      have t2 : decide (n ≤ b) = false := decide_eq_false h2
      clear h1 h2
      go_enter Try.func62, Try.ntmps62
      go_wp2
      go_ret
      exact ⟨ret_bool HE.out.symm, rfl⟩
  · have HE := Lib.hid (show inB n a b = false from decide_eq_false fun q => h1 q.1)
    have t1 : decide (a ≤ n) = false := decide_eq_false h1
    clear h1
    go_enter Try.func62, Try.ntmps62
    go_wp2
    go_ret
    exact ⟨ret_bool HE.out.symm, rfl⟩
#print axioms within_any
theorem GeX.all {w : World} {H : Nat} {g : Ge} (h : GeX w H g) : w.cell? ⟨H, 0, none⟩ = some (.int .i64 g.wal) ∧ w.cell? ⟨H, 1, none⟩ = some (.int .i64 g.st) ∧ w.cell? ⟨H, 2, none⟩ = some (.int .i64 g.k) ∧ w.cell? ⟨H, 3, none⟩ = some (.int .i64 g.m) := ⟨h.x0, h.x1, h.x2, h.x3⟩
theorem wrapI_in {x : Int} (h1 : -9223372036854775808 ≤ x) (h2 : x ≤ 9223372036854775807) : IntKind.i64.wrap x = x := by rw [IntKind.wrap_i64]; omega

section
variable (n : Gn) (h : n.Ok) (w : World)
include h
set_option maxHeartbeats 400000 in
theorem shares_any : Calls Try.prog 83 #[.agg (geC n.ge)] w (Ans (.int .i64 (n.q : Int)) w) := by
  obtain ⟨w1, H, hR⟩ := geR w n.ge
  obtain ⟨k, hk⟩ : ∃ k, k = n.K := ⟨_, rfl⟩
  obtain ⟨m, hm⟩ : ∃ m, m = n.M := ⟨_, rfl⟩
  have x2 : w1.cell? ⟨H, 2, none⟩ = some (.int .i64 (k : Int)) := by rw [hk]; exact hR.x.x2
  have x3 : w1.cell? ⟨H, 3, none⟩ = some (.int .i64 (m : Int)) := by rw [hm]; exact hR.x.x3
  have b1 : k ≤ 16 := by rw [hk]; exact h.k2
  have b2 : m ≤ 8 := by rw [hm]; exact h.m2
  have HE := Lib.hid (show (k : Int) + (m : Int) = (n.q : Int) by rw [hk, hm]; unfold Gn.q; omega)
  have HR := Lib.hid hR
  clear hR hk hm h
  go_enter Try.func83, Try.ntmps83
  go_wp2_with ((with_reducible refine wpList_isOp (.box 23 (.tmp 0)) rfl ?_); refine wpList_boxing _ w1 rfl 23 (.tmp 0) rfl (geC n.ge) H rfl (by exact HR.out.sz) (by exact HR.out.al) ?_)
  go_ret
  exact ⟨ret_int HE.out, HR.out.ch⟩
set_option maxHeartbeats 400000 in
theorem firstShare_any : Calls Try.prog 82 #[.agg (geC n.ge)] w (Ans (.int .i64 (n.fs : Int)) w) := by
  obtain ⟨w1, H, hR⟩ := geR w n.ge
  obtain ⟨k, hk⟩ : ∃ k, k = n.W := ⟨_, rfl⟩
  have x0 : w1.cell? ⟨H, 0, none⟩ = some (.int .i64 (k : Int)) := by rw [hk]; exact hR.x.x0
  have b1 : k ≤ 512 := by rw [hk]; exact h.w2
  have HE := Lib.hid (show 4 + 2 * (k : Int) = (n.fs : Int) by rw [hk]; unfold Gn.fs; omega)
  have HR := Lib.hid hR
  clear hR hk h
  go_enter Try.func82, Try.ntmps82
  go_wp2_with ((with_reducible refine wpList_isOp (.box 23 (.tmp 0)) rfl ?_); refine wpList_boxing _ w1 rfl 23 (.tmp 0) rfl (geC n.ge) H rfl (by exact HR.out.sz) (by exact HR.out.al) ?_)
  go_ret
  exact ⟨ret_int HE.out, HR.out.ch⟩
theorem wrap_stripes : IntKind.i64.wrap (IntKind.i64.wrap (2 * n.ge.st) * (n.q : Int)) = ((2 * (n.S * n.q) : Nat) : Int) := by
  have b1 := h.s2
  have b2 := h.t2
  have e1 : n.ge.st = (n.S : Int) := rfl
  rw [e1, wrapI_in (x := 2 * (n.S : Int)) (by omega) (by omega)]
  have e2 : 2 * (n.S : Int) * (n.q : Int) = ((2 * (n.S * n.q) : Nat) : Int) := by rw [Int.mul_assoc]; omega
  rw [e2]
  exact wrapI_in (by omega) (by omega)
set_option maxHeartbeats 1600000 in
theorem end_any : Calls Try.prog 63 #[.agg (geC n.ge)] w (Ans (.int .i64 (n.tot : Int)) w) := by
  obtain ⟨w1, H, hR⟩ := geR w n.ge
  obtain ⟨x0, x1, x2, x3⟩ := hR.x
  have HR := Lib.hid hR
  have HX := Lib.hid hR.x
  have HK := Lib.hid h
  have HE := Lib.hid (show IntKind.i64.wrap ((n.fs : Int) + IntKind.i64.wrap (IntKind.i64.wrap (2 * n.ge.st) * (n.q : Int))) = (n.tot : Int) by
    have b1 := h.fs2
    have b2 := h.t2
    rw [wrap_stripes n h, wrapI_in (by omega) (by omega)]
    unfold Gn.tot
    omega)
  clear hR h
  go_enter Try.func63, Try.ntmps63
  go_wp2_with ((with_reducible refine wpList_isOp (.box 23 (.tmp 0)) rfl ?_); refine wpList_boxing _ w1 rfl 23 (.tmp 0) rfl (geC n.ge) H rfl (by exact HR.out.sz) (by exact HR.out.al) ?_)
  go_region_held3 (fun w' => w'.cell? ⟨H, 0, none⟩ = some (.int .i64 (n.ge).wal) ∧ w'.cell? ⟨H, 1, none⟩ = some (.int .i64 (n.ge).st) ∧ w'.cell? ⟨H, 2, none⟩ = some (.int .i64 (n.ge).k) ∧ w'.cell? ⟨H, 3, none⟩ = some (.int .i64 (n.ge).m)) (first | go_keep | exact ka | exact kb)
    (first
      | (go_at_call 82; refine (firstShare_any n HK.out _).mono ?_; rintro e w2 ⟨rfl, hc2⟩; have hx2 := HX.out.drew.gr hc2; have ka := hx2.all)
      | (go_at_call 83; refine (shares_any n HK.out _).mono ?_; rintro e w3 ⟨rfl, hc3⟩; have hx3 := hx2.gr hc3; have kb := hx3.all))
  go_wp2
  go_ret
  exact ⟨ret_int HE.out, (HR.out.ch.drew.trans hc2).trans hc3⟩
#print axioms end_any
end

/-! ### May -/
theorem mayG_eq (g : Ge) : mayG g = (inB g.wal 8 512 && (inB g.st 1 32 && (inB g.k 1 16 && inB g.m 1 8))) := rfl
set_option maxHeartbeats 1600000 in
theorem gmay_any (g : Ge) (w : World) : Calls Try.prog 35 #[.agg (geC g)] w (Ans (.bool (mayG g)) w) := by
  obtain ⟨w1, H, hR⟩ := geR w g
  obtain ⟨x0, x1, x2, x3⟩ := hR.x
  have HR := Lib.hid hR
  have HX := Lib.hid hR.x
  clear hR
  cases t1 : inB g.wal 8 512
  · have HE := Lib.hid (show mayG g = false by rw [mayG_eq, t1]; rfl)
    go_enter Try.func35, Try.ntmps35
    go_wp2_with (first | ((with_reducible refine wpList_isOp (.box 23 (.tmp 0)) rfl ?_); refine wpList_boxing _ w1 rfl 23 (.tmp 0) rfl (geC g) H rfl (by exact HR.out.sz) (by exact HR.out.al) ?_) | (go_at_call 62; refine (within_any _ _ _ _).mono ?_; rintro e w' ⟨rfl, rfl⟩))
    go_ret
    exact ⟨ret_bool HE.out.symm, HR.out.ch⟩
  cases t2 : inB g.st 1 32
  · have HE := Lib.hid (show mayG g = false by rw [mayG_eq, t1, t2]; rfl)
    go_enter Try.func35, Try.ntmps35
    go_wp2_with (first | ((with_reducible refine wpList_isOp (.box 23 (.tmp 0)) rfl ?_); refine wpList_boxing _ w1 rfl 23 (.tmp 0) rfl (geC g) H rfl (by exact HR.out.sz) (by exact HR.out.al) ?_) | (go_at_call 62; refine (within_any _ _ _ _).mono ?_; rintro e w' ⟨rfl, rfl⟩))
    go_ret
    exact ⟨ret_bool HE.out.symm, HR.out.ch⟩
  cases t3 : inB g.k 1 16
  · have HE := Lib.hid (show mayG g = false by rw [mayG_eq, t1, t2, t3]; rfl)
    go_enter Try.func35, Try.ntmps35
    go_wp2_with (first | ((with_reducible refine wpList_isOp (.box 23 (.tmp 0)) rfl ?_); refine wpList_boxing _ w1 rfl 23 (.tmp 0) rfl (geC g) H rfl (by exact HR.out.sz) (by exact HR.out.al) ?_) | (go_at_call 62; refine (within_any _ _ _ _).mono ?_; rintro e w' ⟨rfl, rfl⟩))
    go_ret
    exact ⟨ret_bool HE.out.symm, HR.out.ch⟩
  cases t4 : inB g.m 1 8
  · have HE := Lib.hid (show mayG g = false by rw [mayG_eq, t1, t2, t3, t4]; rfl)
    go_enter Try.func35, Try.ntmps35
    go_wp2_with (first | ((with_reducible refine wpList_isOp (.box 23 (.tmp 0)) rfl ?_); refine wpList_boxing _ w1 rfl 23 (.tmp 0) rfl (geC g) H rfl (by exact HR.out.sz) (by exact HR.out.al) ?_) | (go_at_call 62; refine (within_any _ _ _ _).mono ?_; rintro e w' ⟨rfl, rfl⟩))
    go_ret
    exact ⟨ret_bool HE.out.symm, HR.out.ch⟩
  have hm : mayG g = true := by rw [mayG_eq, t1, t2, t3, t4]; rfl
  have HE := Lib.hid hm
  obtain ⟨n, hn, rfl⟩ := may_nat hm
  have HT := Lib.hid (end_any n hn)
  have HD := Lib.hid (show decide ((n.tot : Int) ≤ 4096) = true by have := hn.tot2; exact decide_eq_true (by omega))
  have t5 := HD.out
  clear hm hn
  go_enter Try.func35, Try.ntmps35
  go_wp2_with (first | ((with_reducible refine wpList_isOp (.box 23 (.tmp 0)) rfl ?_); refine wpList_boxing _ w1 rfl 23 (.tmp 0) rfl (geC n.ge) H rfl (by exact HR.out.sz) (by exact HR.out.al) ?_) | (go_at_call 62; refine (within_any _ _ _ _).mono ?_; rintro e w' ⟨rfl, rfl⟩) | (go_at_call 63; refine (HT.out _).mono ?_; rintro e w2 ⟨rfl, hc2⟩))
  go_ret
  exact ⟨ret_bool HE.out.symm, HR.out.ch.trans hc2⟩
#print axioms gmay_any

/-! ### Sectors, Room, Groups -/
def totG (g : Ge) : Int := if mayG g then 4 + 2 * g.wal + 2 * (g.st * (g.k + g.m)) else 0
def roomG (g : Ge) : Int := if mayG g then g.st * g.k * 228 else 0
def grpG (g : Ge) : Int := if mayG g then 1 + g.wal + 2 * g.st else 0
theorem totG_no {g : Ge} (h : mayG g = false) : totG g = 0 := by unfold totG; rw [h]; rfl
theorem roomG_no {g : Ge} (h : mayG g = false) : roomG g = 0 := by unfold roomG; rw [h]; rfl
theorem grpG_no {g : Ge} (h : mayG g = false) : grpG g = 0 := by unfold grpG; rw [h]; rfl
theorem totG_ok {n : Gn} (h : n.Ok) : totG n.ge = (n.tot : Int) := by
  unfold totG; rw [ok_may h, if_pos rfl]
  unfold Gn.ge Gn.tot Gn.fs Gn.q
  simp only
  have e : ((n.S * (n.K + n.M) : Nat) : Int) = (n.S : Int) * ((n.K : Int) + (n.M : Int)) := by rw [Int.natCast_mul, Int.natCast_add]
  rw [← e]
  omega
theorem grpG_ok {n : Gn} (h : n.Ok) : grpG n.ge = (n.grp : Int) := by
  unfold grpG; rw [ok_may h, if_pos rfl]
  unfold Gn.ge Gn.grp Gn.fg
  simp only
  omega
theorem sk_le {n : Gn} (h : n.Ok) : n.S * n.K ≤ 512 := Nat.le_trans (Nat.mul_le_mul h.s2 h.k2) (by omega)
theorem room_wrap {n : Gn} (h : n.Ok) : wrap64 (wrap64 (n.ge.st * n.ge.k) * 228) = roomG n.ge := by
  have b := sk_le h
  have e1 : n.ge.st * n.ge.k = ((n.S * n.K : Nat) : Int) := by rw [Int.natCast_mul]; rfl
  unfold roomG
  rw [ok_may h, if_pos rfl, e1, IntWalk.wrap64_in ((n.S * n.K : Nat) : Int) ⟨by omega, by omega⟩]
  exact IntWalk.wrap64_in _ ⟨by omega, by omega⟩
set_option maxHeartbeats 800000 in
theorem room_any (g : Ge) (w : World) : Calls Try.prog 34 #[.agg (geC g)] w (Ans (.int .i64 (roomG g)) w) := by
  obtain ⟨w1, H, hR⟩ := geR w g
  obtain ⟨x0, x1, x2, x3⟩ := hR.x
  have HR := Lib.hid hR
  have HX := Lib.hid hR.x
  clear hR
  cases t1 : mayG g
  · have HE := Lib.hid (roomG_no t1)
    go_enter Try.func34, Try.ntmps34
    go_wp2_with (first | ((with_reducible refine wpList_isOp (.box 23 (.tmp 0)) rfl ?_); refine wpList_boxing _ w1 rfl 23 (.tmp 0) rfl (geC g) H rfl (by exact HR.out.sz) (by exact HR.out.al) ?_) | (go_at_call 35; refine (gmay_any g _).mono ?_; rintro e w2 ⟨rfl, hc2⟩))
    go_ret
    exact ⟨ret_int HE.out.symm, HR.out.ch.trans hc2⟩
  · obtain ⟨n, hn, rfl⟩ := may_nat t1
    have HE := Lib.hid (room_wrap hn)
    clear hn
    go_enter Try.func34, Try.ntmps34
    go_wp2_with (first | ((with_reducible refine wpList_isOp (.box 23 (.tmp 0)) rfl ?_); refine wpList_boxing _ w1 rfl 23 (.tmp 0) rfl (geC n.ge) H rfl (by exact HR.out.sz) (by exact HR.out.al) ?_) | (go_at_call 35; refine (gmay_any n.ge _).mono ?_; rintro e w2 ⟨rfl, hc2⟩; have hx2 := HX.out.gr hc2; obtain ⟨y0, y1, y2, y3⟩ := hx2))
    go_ret
    exact ⟨ret_int HE.out, HR.out.ch.trans hc2⟩
#print axioms room_any
end Go.Proofs.Ytjdknebifcdicaa
