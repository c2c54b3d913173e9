/-
  Geometries, plainly: how many sectors and groups there are, which sectors a group has, where a sector is; the counting that the document does. A geometry that is handed in, opened. geo.within, shares, firstShare, firstStripeGroup, end, May, Sectors, Room, Groups, walked. Groups and sectors of any geometry, by any ints, plainly.
-/
import Derived.Test.YtlbdopcchoklhaaGreatMh1
import Derived.Deep.Slices
import Derived.Deep.Fields
import Derived.ChangeSame
namespace Go.Proofs.YtlbdopcchoklhaaGreat
open Go.RowKit
set_option linter.unusedVariables false
set_option maxRecDepth 100000

/-! ### a geometry -/
structure Ge where
  wal : Int
  st : Int
  k : Int
  m : Int
def geC (g : Ge) : Array Value := #[.int .i64 g.wal, .int .i64 g.st, .int .i64 g.k, .int .i64 g.m]
def G64 (x : Int) : Prop := -9223372036854775808 ≤ x ∧ x ≤ 9223372036854775807
structure GeIs (g : Ge) : Prop where
  wal : G64 g.wal
  st : G64 g.st
  k : G64 g.k
  m : G64 g.m
def inB (n a b : Int) : Bool := decide (a ≤ n ∧ n ≤ b)
theorem inB_true {n a b : Int} : inB n a b = true ↔ a ≤ n ∧ n ≤ b := decide_eq_true_iff
def mayG (g : Ge) : Bool := inB g.wal 8 512 && (inB g.st 1 32 && (inB g.k 1 16 && inB g.m 1 8))
/-- One that may be. -/
structure Gn where
  W : Nat
  S : Nat
  K : Nat
  M : Nat
structure Gn.Ok (n : Gn) : Prop where
  w1 : 8 ≤ n.W
  w2 : n.W ≤ 512
  s1 : 1 ≤ n.S
  s2 : n.S ≤ 32
  k1 : 1 ≤ n.K
  k2 : n.K ≤ 16
  m1 : 1 ≤ n.M
  m2 : n.M ≤ 8
def Gn.ge (n : Gn) : Ge := ⟨n.W, n.S, n.K, n.M⟩
theorem may_parts {g : Ge} (h : mayG g = true) : (8 ≤ g.wal ∧ g.wal ≤ 512) ∧ (1 ≤ g.st ∧ g.st ≤ 32) ∧ (1 ≤ g.k ∧ g.k ≤ 16) ∧ (1 ≤ g.m ∧ g.m ≤ 8) := by
  unfold mayG at h
  simp only [Bool.and_eq_true, inB_true] at h
  exact h
theorem may_nat {g : Ge} (h : mayG g = true) : ∃ n : Gn, n.Ok ∧ g = n.ge := by
  obtain ⟨⟨a1, a2⟩, ⟨b1, b2⟩, ⟨c1, c2⟩, ⟨d1, d2⟩⟩ := may_parts h
  obtain ⟨w, s, k, m⟩ := g
  simp only at *
  refine ⟨⟨w.toNat, s.toNat, k.toNat, m.toNat⟩, ⟨by simp only; omega, by simp only; omega, by simp only; omega, by simp only; omega, by simp only; omega, by simp only; omega, by simp only; omega, by simp only; omega⟩, ?_⟩
  unfold Gn.ge
  simp only [Ge.mk.injEq]
  omega
theorem ok_may {n : Gn} (h : n.Ok) : mayG n.ge = true := by
  unfold mayG
  simp only [Bool.and_eq_true, inB_true]
  have := h.w1
  have := h.w2
  have := h.s1
  have := h.s2
  have := h.k1
  have := h.k2
  have := h.m1
  have := h.m2
  refine ⟨?_, ?_, ?_, ?_⟩ <;> (unfold Gn.ge; simp only; omega)

namespace Gn
def q (n : Gn) : Nat := n.K + n.M
def fs (n : Gn) : Nat := 4 + 2 * n.W
def tot (n : Gn) : Nat := n.fs + 2 * (n.S * n.q)
def fg (n : Gn) : Nat := 1 + n.W
def grp (n : Gn) : Nat := n.fg + 2 * n.S
def cnt (n : Gn) (i : Nat) : Nat := if i = 0 then 4 else if i < n.fg then 2 else n.q
def brs (n : Gn) (i : Nat) : Nat := if i = 0 then 3 else if i < n.fg then 1 else n.M
def sec (n : Gn) (i p : Nat) : Nat := if i = 0 then p else if i < n.fg then 4 + p * n.W + (i - 1) else n.fs + (i - n.fg) * n.q + p
def ofA (n : Gn) (a : Nat) : Nat := if a < 4 then 0 else if a < n.fs then 1 + (a - 4) % n.W else n.fg + (a - n.fs) / n.q
def plA (n : Gn) (a : Nat) : Nat := if a < 4 then a else if a < n.fs then (a - 4) / n.W else (a - n.fs) % n.q
theorem Ok.q1 {n : Gn} (h : n.Ok) : 2 ≤ n.q := by have := h.k1; have := h.m1; unfold q; omega
theorem Ok.q2 {n : Gn} (h : n.Ok) : n.q ≤ 24 := by have := h.k2; have := h.m2; unfold q; omega
theorem Ok.t2 {n : Gn} (h : n.Ok) : n.S * n.q ≤ 768 := Nat.le_trans (Nat.mul_le_mul h.s2 h.q2) (by omega)
theorem Ok.fs2 {n : Gn} (h : n.Ok) : n.fs ≤ 1028 := by have := h.w2; unfold fs; omega
theorem Ok.tot2 {n : Gn} (h : n.Ok) : n.tot ≤ 2564 := by have := h.fs2; have := h.t2; unfold tot; omega
theorem Ok.grp2 {n : Gn} (h : n.Ok) : n.grp ≤ 577 := by have := h.w2; have := h.s2; unfold grp fg; omega
theorem cnt_le {n : Gn} (h : n.Ok) (i : Nat) : n.cnt i ≤ 24 := by have := h.q2; unfold cnt; split; omega; split <;> omega
theorem stripe_lt {n : Gn} {s p : Nat} (hs : s < 2 * n.S) (hp : p < n.q) : s * n.q + p < 2 * (n.S * n.q) := by
  have h1 : (s + 1) * n.q ≤ (2 * n.S) * n.q := Nat.mul_le_mul_right _ hs
  rw [Nat.add_mul, Nat.one_mul] at h1
  rw [← Nat.mul_assoc]
  omega
theorem slot_lt {n : Gn} {p : Nat} (hp : p < 2) : p * n.W ≤ n.W := by
  have : p = 0 ∨ p = 1 := by omega
  rcases this with rfl | rfl <;> omega
theorem of_sec {n : Gn} (h : n.Ok) {i p : Nat} (hi : i < n.grp) (hp : p < n.cnt i) : n.ofA (n.sec i p) = i ∧ n.plA (n.sec i p) = p := by
  unfold cnt at hp
  have hw := h.w1
  have hq := h.q1
  by_cases e : i = 0
  · have es : n.sec i p = p := by unfold sec; rw [if_pos e]
    rw [if_pos e] at hp
    rw [es]
    unfold ofA plA
    rw [if_pos hp, if_pos hp]
    exact ⟨e.symm, rfl⟩
  · rw [if_neg e] at hp
    by_cases e2 : i < n.fg
    · rw [if_pos e2] at hp
      have es : n.sec i p = 4 + p * n.W + (i - 1) := by unfold sec; rw [if_neg e, if_pos e2]
      have := slot_lt (n := n) hp
      have l1 : i - 1 < n.W := by unfold fg at e2; omega
      have c1 : ¬ 4 + p * n.W + (i - 1) < 4 := by omega
      have c2 : 4 + p * n.W + (i - 1) < n.fs := by unfold fs; omega
      have c3 : 4 + p * n.W + (i - 1) - 4 = (i - 1) + n.W * p := by rw [Nat.mul_comm n.W p]; omega
      rw [es]
      unfold ofA plA
      rw [if_neg c1, if_pos c2, if_neg c1, if_pos c2, c3, Nat.add_mul_mod_self_left, Nat.mod_eq_of_lt l1, Nat.add_mul_div_left _ _ (by omega), Nat.div_eq_of_lt l1]
      omega
    · rw [if_neg e2] at hp
      have es : n.sec i p = n.fs + (i - n.fg) * n.q + p := by unfold sec; rw [if_neg e, if_neg e2]
      have hf : 4 ≤ n.fs := by unfold fs; omega
      have c1 : ¬ n.fs + (i - n.fg) * n.q + p < 4 := by omega
      have c2 : ¬ n.fs + (i - n.fg) * n.q + p < n.fs := by omega
      have c3 : n.fs + (i - n.fg) * n.q + p - n.fs = p + n.q * (i - n.fg) := by rw [Nat.mul_comm n.q]; omega
      rw [es]
      unfold ofA plA
      rw [if_neg c1, if_neg c2, if_neg c1, if_neg c2, c3, Nat.add_mul_mod_self_left, Nat.mod_eq_of_lt hp, Nat.add_mul_div_left _ _ (by omega), Nat.div_eq_of_lt hp]
      omega
theorem of_lt {n : Gn} (h : n.Ok) {a : Nat} (ha : a < n.tot) : n.ofA a < n.grp ∧ n.plA a < n.cnt (n.ofA a) ∧ n.sec (n.ofA a) (n.plA a) = a := by
  have hw := h.w1
  have hq := h.q1
  by_cases c1 : a < 4
  · have e1 : n.ofA a = 0 := by unfold ofA; rw [if_pos c1]
    have e2 : n.plA a = a := by unfold plA; rw [if_pos c1]
    rw [e1, e2]
    unfold cnt sec grp fg
    rw [if_pos rfl, if_pos rfl]
    exact ⟨by omega, c1, rfl⟩
  · by_cases c2 : a < n.fs
    · have e1 : n.ofA a = 1 + (a - 4) % n.W := by unfold ofA; rw [if_neg c1, if_pos c2]
      have e2 : n.plA a = (a - 4) / n.W := by unfold plA; rw [if_neg c1, if_pos c2]
      have m1 : (a - 4) % n.W < n.W := Nat.mod_lt _ (by omega)
      have m2 : (a - 4) / n.W < 2 := Nat.div_lt_of_lt_mul (by unfold fs at c2; rw [Nat.mul_comm]; omega)
      have m3 := Nat.div_add_mod (a - 4) n.W
      rw [e1, e2]
      generalize (a - 4) / n.W = D at m2 m3 ⊢
      generalize (a - 4) % n.W = E at m1 m3 ⊢
      have l1 : ¬ 1 + E = 0 := by omega
      have l2 : 1 + E < n.fg := by unfold fg; omega
      unfold cnt sec
      rw [if_neg l1, if_pos l2, if_neg l1, if_pos l2]
      refine ⟨by unfold grp; omega, m2, ?_⟩
      rw [Nat.mul_comm D n.W]
      omega
    · have e1 : n.ofA a = n.fg + (a - n.fs) / n.q := by unfold ofA; rw [if_neg c1, if_neg c2]
      have e2 : n.plA a = (a - n.fs) % n.q := by unfold plA; rw [if_neg c1, if_neg c2]
      have m1 : (a - n.fs) % n.q < n.q := Nat.mod_lt _ (by omega)
      have m2 : (a - n.fs) / n.q < 2 * n.S := Nat.div_lt_of_lt_mul (by
        unfold tot at ha
        rw [Nat.mul_comm n.q (2 * n.S), Nat.mul_assoc]
        omega)
      have m3 := Nat.div_add_mod (a - n.fs) n.q
      rw [e1, e2]
      generalize (a - n.fs) / n.q = D at m2 m3 ⊢
      generalize (a - n.fs) % n.q = E at m1 m3 ⊢
      have l1 : ¬ n.fg + D = 0 := by unfold fg; omega
      have l2 : ¬ n.fg + D < n.fg := by omega
      unfold cnt sec
      rw [if_neg l1, if_neg l2, if_neg l1, if_neg l2]
      refine ⟨by unfold grp; omega, m1, ?_⟩
      rw [Nat.add_sub_cancel_left, Nat.mul_comm D n.q]
      omega
theorem sec_mono {n : Gn} (h : n.Ok) {i p r : Nat} (hpr : p < r) (hr : r < n.cnt i) : n.sec i p < n.sec i r := by
  unfold cnt at hr
  unfold sec
  have hw := h.w1
  by_cases e : i = 0
  · rw [if_pos e, if_pos e]; exact hpr
  · rw [if_neg e] at hr
    rw [if_neg e, if_neg e]
    by_cases e2 : i < n.fg
    · rw [if_pos e2] at hr
      rw [if_pos e2, if_pos e2]
      obtain ⟨rfl, rfl⟩ : p = 0 ∧ r = 1 := by omega
      omega
    · rw [if_neg e2, if_neg e2]; omega
/-! ### the sectors of a group, counted one behind the other -/
structure Upto (n : Gn) (i a c : Nat) : Prop where
  le : c ≤ n.cnt i
  low : ∀ p, p < c → n.sec i p < a
  high : c < n.cnt i → a ≤ n.sec i c
theorem Upto.start (n : Gn) (i : Nat) : Upto n i 0 0 := ⟨Nat.zero_le _, fun p h => absurd h (Nat.not_lt_zero p), fun _ => Nat.zero_le _⟩
theorem Upto.at {n : Gn} (h : n.Ok) {i a c : Nat} (u : Upto n i a c) (ha : a < n.tot) (e : n.ofA a = i) : n.plA a = c ∧ c < n.cnt i ∧ n.sec i c = a := by
  obtain ⟨_, h2, h3⟩ := of_lt h ha
  rw [e] at h2 h3
  have h4 : ¬ n.plA a < c := fun q => by have := u.low _ q; omega
  have h5 : c < n.cnt i := by omega
  have h6 := u.high h5
  by_cases q : c < n.plA a
  · have := sec_mono h q h2; omega
  · have e2 : n.plA a = c := by omega
    exact ⟨e2, h5, by rw [← e2]; exact h3⟩
theorem Upto.miss {n : Gn} (h : n.Ok) {i a c : Nat} (u : Upto n i a c) (hi : i < n.grp) (e : ¬ n.ofA a = i) : Upto n i (a + 1) c := by
  refine ⟨u.le, fun p hp => Nat.lt_succ_of_lt (u.low p hp), fun hc => ?_⟩
  have h1 := u.high hc
  have h2 : ¬ n.sec i c = a := fun q => e (by rw [← q]; exact (of_sec h hi hc).1)
  omega
/-! ### sectors that were seen, group by group, member by member -/
def seenN (n : Gn) (i k a : Nat) : Nat := if n.ofA a < i ∨ (n.ofA a = i ∧ n.plA a < k) then 1 else 0
end Gn
/-! ### a geometry in a variable -/
structure GeR (w w1 : World) (H : Nat) (g : Ge) : Prop where
  al : w.alloc (.cells (geC g) 23) = w1
  sz : w.heap.size = H
  cx : w1.heap[H]? = some (.cells (geC g) 23 (0, 0))
  ch : Ch (fun _ => False) w w1
theorem geR (w : World) (g : Ge) : ∃ w1 H, GeR w w1 H g := ⟨_, _, rfl, rfl, heap_alloc_new w _, (Ch.refl _ w).alloc _ _⟩
/-- A geometry stands in a variable. -/
structure GeX (w : World) (H : Nat) (g : Ge) : Prop where
  x0 : w.cell? ⟨H, 0, none⟩ = some (.int .i64 g.wal)
  x1 : w.cell? ⟨H, 1, none⟩ = some (.int .i64 g.st)
  x2 : w.cell? ⟨H, 2, none⟩ = some (.int .i64 g.k)
  x3 : w.cell? ⟨H, 3, none⟩ = some (.int .i64 g.m)
theorem GeR.x {w w1 : World} {H : Nat} {g : Ge} (h : GeR w w1 H g) : GeX w1 H g := ⟨blk_cell h.cx, blk_cell h.cx, blk_cell h.cx, blk_cell h.cx⟩
theorem GeX.gr {w w' : World} {H : Nat} {g : Ge} (h : GeX w H g) (k : Ch (fun _ => False) w w') : GeX w' H g := ⟨k.cell h.x0 (fun f => f), k.cell h.x1 (fun f => f), k.cell h.x2 (fun f => f), k.cell h.x3 (fun f => f)⟩
theorem GeX.off {S : Nat → Prop} {w w' : World} {H : Nat} {g : Ge} (h : GeX w H g) (k : Ch S w w') (hS : ¬ S H) : GeX w' H g := ⟨k.cell h.x0 hS, k.cell h.x1 hS, k.cell h.x2 hS, k.cell h.x3 hS⟩
theorem GeX.drew {w : World} {H : Nat} {g : Ge} (h : GeX w H g) : GeX w.drew H g := h.gr ((Ch.refl _ w).drew)
end Go.Proofs.YtlbdopcchoklhaaGreat
namespace Go.Proofs.YtlbdopcchoklhaaGreat
open Go.ChangeShapes Go.WideShapes Go.ChangeAt Go.RowKit Go.Deep
set_option linter.unusedVariables false
set_option maxRecDepth 100000

theorem under_geo_int : Tryz.prog.underlying /-t-/3 = some (.int .i64) := by kernel_rfl
theorem cellsGeo : Tryz.prog.cellsOf 23 = 4 := by kernel_rfl
theorem open_geo {H : Type} {enc : TypeId × Value → H} {W : World} {v : Value} {d : DataW H} {p : List MemPlace} {b0 : Nat} {r : Reach} (hv : Value.okWide Tryz.prog W r b0 23 v) (h : DataW.Trod enc Tryz.prog W 0 (fun _ => true) true 23 v d p) : ∃ g : Ge, GeIs g ∧ v = .agg (geC g) := by
  simp only [Value.okWide, Tryz.underlying23] at hv
  obtain ⟨xs, rfl, h2, _⟩ := hv
  obtain ⟨fuel, hf⟩ := h
  obtain ⟨ys, n', hn', hy, hlen', hyl, hfl⟩ := DataW.trod_struct Tryz.underlying23 hf
  obtain ⟨l⟩ := xs
  have hlen4 : l.length = 4 := by
    have : l.length = Tryz.prog.cellsOf 23 := by simpa using h2
    exact this.trans cellsGeo
  match l, hlen4 with
  | [x0, x1, x2, x3], _ =>
    have g0 : DataW.trod enc Tryz.prog W 0 (fun _ => true) true n' /-t-/3 [x0] = ys[0]? := hfl 0 _ rfl
    have g1 : DataW.trod enc Tryz.prog W 0 (fun _ => true) true n' /-t-/3 [x1] = ys[1]? := hfl 1 _ rfl
    have g2 : DataW.trod enc Tryz.prog W 0 (fun _ => true) true n' /-t-/3 [x2] = ys[2]? := hfl 2 _ rfl
    have g3 : DataW.trod enc Tryz.prog W 0 (fun _ => true) true n' /-t-/3 [x3] = ys[3]? := hfl 3 _ rfl
    have hys : ys.length = 4 := hyl
    match ys, hys with
    | [y0, y1, y2, y3], _ =>
      obtain ⟨a0, e0, _, w0⟩ := DataW.trod_int under_geo_int g0
      obtain ⟨a1, e1, _, w1⟩ := DataW.trod_int under_geo_int g1
      obtain ⟨a2, e2, _, w2⟩ := DataW.trod_int under_geo_int g2
      obtain ⟨a3, e3, _, w3⟩ := DataW.trod_int under_geo_int g3
      simp only [List.cons.injEq, and_true] at e0 e1 e2 e3
      refine ⟨⟨a0, a1, a2, a3⟩, ⟨b64 w0, b64 w1, b64 w2, b64 w3⟩, ?_⟩
      rw [e0, e1, e2, e3]
      rfl
end Go.Proofs.YtlbdopcchoklhaaGreat
namespace Go.Proofs.YtlbdopcchoklhaaGreat
open Go.RowKit
set_option linter.unusedVariables false
set_option maxRecDepth 100000

set_option maxHeartbeats 400000 in
theorem within_any (n a b : Int) (w : World) : Calls Tryz.prog 56 #[.int .i64 n, .int .i64 a, .int .i64 b] w fun e w' => e = .returned (.bool (inB n a b)) ∧ w = w' := by
  by_cases h1 : a ≤ n
  · by_cases h2 : n ≤ b
    · have HE := Lib.hid (show inB n a b = true from inB_true.2 ⟨h1, h2⟩)
      have t1 : decide (a ≤ n) = true := decide_eq_true h1
      have t2 : decide (n ≤ b) = true := decide_eq_true h2
      clear h1 h2
      go_enter Tryz.func56, Tryz.ntmps56
      go_wp2
      go_ret
      exact ⟨ret_bool HE.out.symm, rfl⟩
    · have HE := Lib.hid (show inB n a b = false from decide_eq_false fun q => h2 q.2)
      have t1 : decide (a ≤ n) = true := decide_eq_true h1
      have t2 : decide (n ≤ b) = false := decide_eq_false h2
      clear h1 h2
      go_enter Tryz.func56, Tryz.ntmps56
      go_wp2
      go_ret
      exact ⟨ret_bool HE.out.symm, rfl⟩
  · have HE := Lib.hid (show inB n a b = false from decide_eq_false fun q => h1 q.1)
    have t1 : decide (a ≤ n) = false := decide_eq_false h1
    clear h1
    go_enter Tryz.func56, Tryz.ntmps56
    go_wp2
    go_ret
    exact ⟨ret_bool HE.out.symm, rfl⟩
theorem GeX.all {w : World} {H : Nat} {g : Ge} (h : GeX w H g) : w.cell? ⟨H, 0, none⟩ = some (.int .i64 g.wal) ∧ w.cell? ⟨H, 1, none⟩ = some (.int .i64 g.st) ∧ w.cell? ⟨H, 2, none⟩ = some (.int .i64 g.k) ∧ w.cell? ⟨H, 3, none⟩ = some (.int .i64 g.m) := ⟨h.x0, h.x1, h.x2, h.x3⟩
theorem wrapI_in {x : Int} (h1 : -9223372036854775808 ≤ x) (h2 : x ≤ 9223372036854775807) : IntKind.i64.wrap x = x := by rw [IntKind.wrap_i64]; omega

section
variable (n : Gn) (h : n.Ok) (w : World)
include h
set_option maxHeartbeats 400000 in
theorem shares_any : Calls Tryz.prog 97 #[.agg (geC n.ge)] w (Ans (.int .i64 (n.q : Int)) w) := by
  obtain ⟨w1, H, hR⟩ := geR w n.ge
  obtain ⟨k, hk⟩ : ∃ k, k = n.K := ⟨_, rfl⟩
  obtain ⟨m, hm⟩ : ∃ m, m = n.M := ⟨_, rfl⟩
  have x2 : w1.cell? ⟨H, 2, none⟩ = some (.int .i64 (k : Int)) := by rw [hk]; exact hR.x.x2
  have x3 : w1.cell? ⟨H, 3, none⟩ = some (.int .i64 (m : Int)) := by rw [hm]; exact hR.x.x3
  have b1 : k ≤ 16 := by rw [hk]; exact h.k2
  have b2 : m ≤ 8 := by rw [hm]; exact h.m2
  have HE := Lib.hid (show (k : Int) + (m : Int) = (n.q : Int) by rw [hk, hm]; unfold Gn.q; omega)
  have HR := Lib.hid hR
  clear hR hk hm h
  go_enter Tryz.func97, Tryz.ntmps97
  go_wp2_with ((with_reducible refine wpList_isOp (.box 23 (.tmp 0)) rfl ?_); refine wpList_boxing _ w1 rfl 23 (.tmp 0) rfl (geC n.ge) H rfl (by exact HR.out.sz) (by exact HR.out.al) ?_)
  go_ret
  exact ⟨ret_int HE.out, HR.out.ch⟩
set_option maxHeartbeats 400000 in
theorem firstShare_any : Calls Tryz.prog 96 #[.agg (geC n.ge)] w (Ans (.int .i64 (n.fs : Int)) w) := by
  obtain ⟨w1, H, hR⟩ := geR w n.ge
  obtain ⟨k, hk⟩ : ∃ k, k = n.W := ⟨_, rfl⟩
  have x0 : w1.cell? ⟨H, 0, none⟩ = some (.int .i64 (k : Int)) := by rw [hk]; exact hR.x.x0
  have b1 : k ≤ 512 := by rw [hk]; exact h.w2
  have HE := Lib.hid (show 4 + 2 * (k : Int) = (n.fs : Int) by rw [hk]; unfold Gn.fs; omega)
  have HR := Lib.hid hR
  clear hR hk h
  go_enter Tryz.func96, Tryz.ntmps96
  go_wp2_with ((with_reducible refine wpList_isOp (.box 23 (.tmp 0)) rfl ?_); refine wpList_boxing _ w1 rfl 23 (.tmp 0) rfl (geC n.ge) H rfl (by exact HR.out.sz) (by exact HR.out.al) ?_)
  go_ret
  exact ⟨ret_int HE.out, HR.out.ch⟩
set_option maxHeartbeats 400000 in
theorem firstGroup_any : Calls Tryz.prog 59 #[.agg (geC n.ge)] w (Ans (.int .i64 (n.fg : Int)) w) := by
  obtain ⟨w1, H, hR⟩ := geR w n.ge
  obtain ⟨k, hk⟩ : ∃ k, k = n.W := ⟨_, rfl⟩
  have x0 : w1.cell? ⟨H, 0, none⟩ = some (.int .i64 (k : Int)) := by rw [hk]; exact hR.x.x0
  have b1 : k ≤ 512 := by rw [hk]; exact h.w2
  have HE := Lib.hid (show 1 + (k : Int) = (n.fg : Int) by rw [hk]; unfold Gn.fg; omega)
  have HR := Lib.hid hR
  clear hR hk h
  go_enter Tryz.func59, Tryz.ntmps59
  go_wp2_with ((with_reducible refine wpList_isOp (.box 23 (.tmp 0)) rfl ?_); refine wpList_boxing _ w1 rfl 23 (.tmp 0) rfl (geC n.ge) H rfl (by exact HR.out.sz) (by exact HR.out.al) ?_)
  go_ret
  exact ⟨ret_int HE.out, HR.out.ch⟩
theorem wrap_stripes : IntKind.i64.wrap (IntKind.i64.wrap (2 * n.ge.st) * (n.q : Int)) = ((2 * (n.S * n.q) : Nat) : Int) := by
  have b1 := h.s2
  have b2 := h.t2
  have e1 : n.ge.st = (n.S : Int) := rfl
  rw [e1, wrapI_in (x := 2 * (n.S : Int)) (by omega) (by omega)]
  have e2 : 2 * (n.S : Int) * (n.q : Int) = ((2 * (n.S * n.q) : Nat) : Int) := by rw [Int.mul_assoc]; omega
  rw [e2]
  exact wrapI_in (by omega) (by omega)
set_option maxHeartbeats 1600000 in
theorem end_any : Calls Tryz.prog 57 #[.agg (geC n.ge)] w (Ans (.int .i64 (n.tot : Int)) w) := by
  obtain ⟨w1, H, hR⟩ := geR w n.ge
  obtain ⟨x0, x1, x2, x3⟩ := hR.x
  have HR := Lib.hid hR
  have HX := Lib.hid hR.x
  have HK := Lib.hid h
  have HE := Lib.hid (show IntKind.i64.wrap ((n.fs : Int) + IntKind.i64.wrap (IntKind.i64.wrap (2 * n.ge.st) * (n.q : Int))) = (n.tot : Int) by
    have b1 := h.fs2
    have b2 := h.t2
    rw [wrap_stripes n h, wrapI_in (by omega) (by omega)]
    unfold Gn.tot
    omega)
  clear hR h
  go_enter Tryz.func57, Tryz.ntmps57
  go_wp2_with ((with_reducible refine wpList_isOp (.box 23 (.tmp 0)) rfl ?_); refine wpList_boxing _ w1 rfl 23 (.tmp 0) rfl (geC n.ge) H rfl (by exact HR.out.sz) (by exact HR.out.al) ?_)
  go_region_held3 (fun w' => w'.cell? ⟨H, 0, none⟩ = some (.int .i64 (n.ge).wal) ∧ w'.cell? ⟨H, 1, none⟩ = some (.int .i64 (n.ge).st) ∧ w'.cell? ⟨H, 2, none⟩ = some (.int .i64 (n.ge).k) ∧ w'.cell? ⟨H, 3, none⟩ = some (.int .i64 (n.ge).m)) (first | go_keep | exact ka | exact kb)
    (first
      | (go_at_call 96; refine (firstShare_any n HK.out _).mono ?_; rintro e w2 ⟨rfl, hc2⟩; have hx2 := HX.out.drew.gr hc2; have ka := hx2.all)
      | (go_at_call 97; refine (shares_any n HK.out _).mono ?_; rintro e w3 ⟨rfl, hc3⟩; have hx3 := hx2.gr hc3; have kb := hx3.all))
  go_wp2
  go_ret
  exact ⟨ret_int HE.out, (HR.out.ch.drew.trans hc2).trans hc3⟩
end

/-! ### May -/
theorem mayG_eq (g : Ge) : mayG g = (inB g.wal 8 512 && (inB g.st 1 32 && (inB g.k 1 16 && inB g.m 1 8))) := rfl
set_option maxHeartbeats 1600000 in
theorem gmay_any (g : Ge) (w : World) : Calls Tryz.prog 28 #[.agg (geC g)] w (Ans (.bool (mayG g)) w) := by
  obtain ⟨w1, H, hR⟩ := geR w g
  obtain ⟨x0, x1, x2, x3⟩ := hR.x
  have HR := Lib.hid hR
  have HX := Lib.hid hR.x
  clear hR
  cases t1 : inB g.wal 8 512
  · have HE := Lib.hid (show mayG g = false by rw [mayG_eq, t1]; rfl)
    go_enter Tryz.func28, Tryz.ntmps28
    go_wp2_with (first | ((with_reducible refine wpList_isOp (.box 23 (.tmp 0)) rfl ?_); refine wpList_boxing _ w1 rfl 23 (.tmp 0) rfl (geC g) H rfl (by exact HR.out.sz) (by exact HR.out.al) ?_) | (go_at_call 56; refine (within_any _ _ _ _).mono ?_; rintro e w' ⟨rfl, rfl⟩))
    go_ret
    exact ⟨ret_bool HE.out.symm, HR.out.ch⟩
  cases t2 : inB g.st 1 32
  · have HE := Lib.hid (show mayG g = false by rw [mayG_eq, t1, t2]; rfl)
    go_enter Tryz.func28, Tryz.ntmps28
    go_wp2_with (first | ((with_reducible refine wpList_isOp (.box 23 (.tmp 0)) rfl ?_); refine wpList_boxing _ w1 rfl 23 (.tmp 0) rfl (geC g) H rfl (by exact HR.out.sz) (by exact HR.out.al) ?_) | (go_at_call 56; refine (within_any _ _ _ _).mono ?_; rintro e w' ⟨rfl, rfl⟩))
    go_ret
    exact ⟨ret_bool HE.out.symm, HR.out.ch⟩
  cases t3 : inB g.k 1 16
  · have HE := Lib.hid (show mayG g = false by rw [mayG_eq, t1, t2, t3]; rfl)
    go_enter Tryz.func28, Tryz.ntmps28
    go_wp2_with (first | ((with_reducible refine wpList_isOp (.box 23 (.tmp 0)) rfl ?_); refine wpList_boxing _ w1 rfl 23 (.tmp 0) rfl (geC g) H rfl (by exact HR.out.sz) (by exact HR.out.al) ?_) | (go_at_call 56; refine (within_any _ _ _ _).mono ?_; rintro e w' ⟨rfl, rfl⟩))
    go_ret
    exact ⟨ret_bool HE.out.symm, HR.out.ch⟩
  cases t4 : inB g.m 1 8
  · have HE := Lib.hid (show mayG g = false by rw [mayG_eq, t1, t2, t3, t4]; rfl)
    go_enter Tryz.func28, Tryz.ntmps28
    go_wp2_with (first | ((with_reducible refine wpList_isOp (.box 23 (.tmp 0)) rfl ?_); refine wpList_boxing _ w1 rfl 23 (.tmp 0) rfl (geC g) H rfl (by exact HR.out.sz) (by exact HR.out.al) ?_) | (go_at_call 56; refine (within_any _ _ _ _).mono ?_; rintro e w' ⟨rfl, rfl⟩))
    go_ret
    exact ⟨ret_bool HE.out.symm, HR.out.ch⟩
  have hm : mayG g = true := by rw [mayG_eq, t1, t2, t3, t4]; rfl
  have HE := Lib.hid hm
  obtain ⟨n, hn, rfl⟩ := may_nat hm
  have HT := Lib.hid (end_any n hn)
  have HD := Lib.hid (show decide ((n.tot : Int) ≤ 4096) = true by have := hn.tot2; exact decide_eq_true (by omega))
  have t5 := HD.out
  clear hm hn
  go_enter Tryz.func28, Tryz.ntmps28
  go_wp2_with (first | ((with_reducible refine wpList_isOp (.box 23 (.tmp 0)) rfl ?_); refine wpList_boxing _ w1 rfl 23 (.tmp 0) rfl (geC n.ge) H rfl (by exact HR.out.sz) (by exact HR.out.al) ?_) | (go_at_call 56; refine (within_any _ _ _ _).mono ?_; rintro e w' ⟨rfl, rfl⟩) | (go_at_call 57; refine (HT.out _).mono ?_; rintro e w2 ⟨rfl, hc2⟩))
  go_ret
  exact ⟨ret_bool HE.out.symm, HR.out.ch.trans hc2⟩
/-! ### Sectors, Room, Groups -/
def totG (g : Ge) : Int := if mayG g then 4 + 2 * g.wal + 2 * (g.st * (g.k + g.m)) else 0
def roomG (g : Ge) : Int := if mayG g then g.st * g.k * 228 else 0
def grpG (g : Ge) : Int := if mayG g then 1 + g.wal + 2 * g.st else 0
theorem roomG_no {g : Ge} (h : mayG g = false) : roomG g = 0 := by unfold roomG; rw [h]; rfl
theorem grpG_no {g : Ge} (h : mayG g = false) : grpG g = 0 := by unfold grpG; rw [h]; rfl
theorem grpG_ok {n : Gn} (h : n.Ok) : grpG n.ge = (n.grp : Int) := by
  unfold grpG; rw [ok_may h, if_pos rfl]
  unfold Gn.ge Gn.grp Gn.fg
  simp only
  omega
theorem sk_le {n : Gn} (h : n.Ok) : n.S * n.K ≤ 512 := Nat.le_trans (Nat.mul_le_mul h.s2 h.k2) (by omega)
theorem room_wrap {n : Gn} (h : n.Ok) : wrap64 (wrap64 (n.ge.st * n.ge.k) * 228) = roomG n.ge := by
  have b := sk_le h
  have e1 : n.ge.st * n.ge.k = ((n.S * n.K : Nat) : Int) := by rw [Int.natCast_mul]; rfl
  unfold roomG
  rw [ok_may h, if_pos rfl, e1, IntWalk.wrap64_in ((n.S * n.K : Nat) : Int) ⟨by omega, by omega⟩]
  exact IntWalk.wrap64_in _ ⟨by omega, by omega⟩
set_option maxHeartbeats 800000 in
theorem room_any (g : Ge) (w : World) : Calls Tryz.prog 33 #[.agg (geC g)] w (Ans (.int .i64 (roomG g)) w) := by
  obtain ⟨w1, H, hR⟩ := geR w g
  obtain ⟨x0, x1, x2, x3⟩ := hR.x
  have HR := Lib.hid hR
  have HX := Lib.hid hR.x
  clear hR
  cases t1 : mayG g
  · have HE := Lib.hid (roomG_no t1)
    go_enter Tryz.func33, Tryz.ntmps33
    go_wp2_with (first | ((with_reducible refine wpList_isOp (.box 23 (.tmp 0)) rfl ?_); refine wpList_boxing _ w1 rfl 23 (.tmp 0) rfl (geC g) H rfl (by exact HR.out.sz) (by exact HR.out.al) ?_) | (go_at_call 28; refine (gmay_any g _).mono ?_; rintro e w2 ⟨rfl, hc2⟩))
    go_ret
    exact ⟨ret_int HE.out.symm, HR.out.ch.trans hc2⟩
  · obtain ⟨n, hn, rfl⟩ := may_nat t1
    have HE := Lib.hid (room_wrap hn)
    clear hn
    go_enter Tryz.func33, Tryz.ntmps33
    go_wp2_with (first | ((with_reducible refine wpList_isOp (.box 23 (.tmp 0)) rfl ?_); refine wpList_boxing _ w1 rfl 23 (.tmp 0) rfl (geC n.ge) H rfl (by exact HR.out.sz) (by exact HR.out.al) ?_) | (go_at_call 28; refine (gmay_any n.ge _).mono ?_; rintro e w2 ⟨rfl, hc2⟩; have hx2 := HX.out.gr hc2; obtain ⟨y0, y1, y2, y3⟩ := hx2))
    go_ret
    exact ⟨ret_int HE.out, HR.out.ch.trans hc2⟩
set_option maxHeartbeats 1600000 in
theorem groups_any (g : Ge) (w : World) : Calls Tryz.prog 31 #[.agg (geC g)] w (Ans (.int .i64 (grpG g)) w) := by
  obtain ⟨w1, H, hR⟩ := geR w g
  obtain ⟨x0, x1, x2, x3⟩ := hR.x
  have HR := Lib.hid hR
  have HX := Lib.hid hR.x
  clear hR
  cases t1 : mayG g
  · have HE := Lib.hid (grpG_no t1)
    go_enter Tryz.func31, Tryz.ntmps31
    go_wp2_with (first | ((with_reducible refine wpList_isOp (.box 23 (.tmp 0)) rfl ?_); refine wpList_boxing _ w1 rfl 23 (.tmp 0) rfl (geC g) H rfl (by exact HR.out.sz) (by exact HR.out.al) ?_) | (go_at_call 28; refine (gmay_any g _).mono ?_; rintro e w2 ⟨rfl, hc2⟩))
    go_ret
    exact ⟨ret_int HE.out.symm, HR.out.ch.trans hc2⟩
  · obtain ⟨n, hn, rfl⟩ := may_nat t1
    have HE := Lib.hid (show IntKind.i64.wrap ((n.fg : Int) + IntKind.i64.wrap (2 * n.ge.st)) = grpG n.ge by
      have b1 := hn.w2
      have b2 := hn.s2
      have e1 : n.ge.st = (n.S : Int) := rfl
      have e2 : (n.fg : Int) = 1 + (n.W : Int) := by unfold Gn.fg; omega
      rw [grpG_ok hn, e1, wrapI_in (x := 2 * (n.S : Int)) (by omega) (by omega), wrapI_in (by omega) (by omega)]
      unfold Gn.grp
      omega)
    have HT := Lib.hid (firstGroup_any n hn)
    clear hn
    go_enter Tryz.func31, Tryz.ntmps31
    go_wp2_with (first | ((with_reducible refine wpList_isOp (.box 23 (.tmp 0)) rfl ?_); refine wpList_boxing _ w1 rfl 23 (.tmp 0) rfl (geC n.ge) H rfl (by exact HR.out.sz) (by exact HR.out.al) ?_) | (go_at_call 28; refine (gmay_any n.ge _).mono ?_; rintro e w2 ⟨rfl, hc2⟩; have hx2 := HX.out.gr hc2; obtain ⟨y0, y1, y2, y3⟩ := hx2))
    go_region_held3 (fun w' => w'.cell? ⟨H, 0, none⟩ = some (.int .i64 (n.ge).wal) ∧ w'.cell? ⟨H, 1, none⟩ = some (.int .i64 (n.ge).st) ∧ w'.cell? ⟨H, 2, none⟩ = some (.int .i64 (n.ge).k) ∧ w'.cell? ⟨H, 3, none⟩ = some (.int .i64 (n.ge).m)) (first | go_keep | exact ka)
      (first
        | (go_at_call 59; refine (HT.out _).mono ?_; rintro e w3 ⟨rfl, hc3⟩; have hx3 := (GeX.mk y0 y1 y2 y3).drew.gr hc3; have ka := hx3.all))
    go_wp2
    go_ret
    exact ⟨ret_int HE.out, (HR.out.ch.trans hc2).drew.trans hc3⟩
end Go.Proofs.YtlbdopcchoklhaaGreat
namespace Go.Proofs.YtlbdopcchoklhaaGreat
open Go.RowKit
set_option linter.unusedVariables false
set_option maxRecDepth 100000

def toGn (g : Ge) : Gn := ⟨g.wal.toNat, g.st.toNat, g.k.toNat, g.m.toNat⟩
theorem toGn_ge (n : Gn) : toGn n.ge = n := by
  obtain ⟨a, b, c, d⟩ := n
  unfold toGn Gn.ge
  simp only [Int.toNat_natCast]
def inG (g : Ge) (i : Int) : Bool := decide (0 ≤ i ∧ i < grpG g)
def cntG (g : Ge) (i : Int) : Nat := if inG g i then (toGn g).cnt i.toNat else 0
def brsG (g : Ge) (i : Int) : Nat := if inG g i then (toGn g).brs i.toNat else 0
def secG (g : Ge) (i : Int) (p : Nat) : Int := ((toGn g).sec i.toNat p : Int)
def atG (g : Ge) (a : Int) : Bool := decide (0 ≤ a ∧ a < totG g)
def whE (g : Ge) (a : Int) : Int := if mayG g then (if atG g a then 0 else 3) else 1
def whI (g : Ge) (a : Int) : Int := if atG g a then ((toGn g).ofA a.toNat : Int) else 0
def whJ (g : Ge) (a : Int) : Int := if atG g a then ((toGn g).plA a.toNat : Int) else 0
def whV (g : Ge) (a : Int) : Value := .tuple #[.int .i64 (whI g a), .int .i64 (whJ g a), .int .i64 (whE g a)]
theorem inG_no {g : Ge} {i : Int} (h : inG g i = false) : cntG g i = 0 ∧ brsG g i = 0 := by unfold cntG brsG; rw [h]; exact ⟨rfl, rfl⟩
theorem inG_may {g : Ge} {i : Int} (h : inG g i = true) : mayG g = true := by
  have h1 := of_decide_eq_true h
  cases t : mayG g
  · rw [grpG_no t] at h1; omega
  · rfl
theorem inG_nat {g : Ge} {i : Int} (h : inG g i = true) : ∃ (n : Gn) (j : Nat), n.Ok ∧ g = n.ge ∧ i = (j : Int) ∧ j < n.grp := by
  obtain ⟨n, hn, rfl⟩ := may_nat (inG_may h)
  have h1 := of_decide_eq_true h
  rw [grpG_ok hn] at h1
  exact ⟨n, i.toNat, hn, rfl, by omega, by omega⟩
theorem inG_ok {n : Gn} (h : n.Ok) {j : Nat} (hj : j < n.grp) : inG n.ge (j : Int) = true := decide_eq_true (by rw [grpG_ok h]; omega)
theorem cntG_ok {n : Gn} (h : n.Ok) {j : Nat} (hj : j < n.grp) : cntG n.ge (j : Int) = n.cnt j := by unfold cntG; rw [inG_ok h hj, if_pos rfl, toGn_ge, Int.toNat_natCast]
theorem secG_ok (n : Gn) (j p : Nat) : secG n.ge (j : Int) p = (n.sec j p : Int) := by unfold secG; rw [toGn_ge, Int.toNat_natCast]
end Go.Proofs.YtlbdopcchoklhaaGreat
