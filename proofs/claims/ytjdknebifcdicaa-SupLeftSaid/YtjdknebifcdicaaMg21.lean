/-
  The document's GetNum and GetInt (quartermasterref05), walked. Geometries, plainly: how many sectors and groups there are, which sectors a group has, where a sector is; the counting that the document does.
-/
import Derived.Test.YtjdknebifcdicaaMg20
import Derived.Test.YtjdknebifcdicaaMg2
namespace Go.Proofs.Ytjdknebifcdicaa
open Go.RowKit Go.Shelf Cod
set_option linter.unusedVariables false
set_option maxRecDepth 100000

/-- What is handed back of bytes: a value, what is left, an error; the world has but drawn. -/
def GetRPost (n : Nat) (x : Value) (z : Nat → Nat) (K : Nat) (r1 r2 : Value) (w : World) (en : Ending) (w' : World) : Prop :=
  ∃ y d, en = .returned (.tuple #[r1, y, r2]) ∧ w' = w.drewN d ∧ RowV w y (n - K) (fun i => z (K + i)) ∧ NN y ∧ ∀ S, Off S x → Off S y
theorem rpost_all {n K : Nat} {x r1 r2 : Value} {z : Nat → Nat} {w : World} (hK : K = 0) (h : RowV w x n z) (hn : NN x) (d : Nat) : GetRPost n x z K r1 r2 w (.returned (.tuple #[r1, x, r2])) (w.drewN d) := by
  subst hK
  exact ⟨x, d, rfl, rfl, h.congr (fun i _ => by rw [Nat.zero_add]), hn, fun S h => h⟩
theorem rpost_all0 {n K : Nat} {x r1 r2 : Value} {z : Nat → Nat} {w : World} (hK : K = 0) (h : RowV w x n z) (hn : NN x) : GetRPost n x z K r1 r2 w (.returned (.tuple #[r1, x, r2])) w := rpost_all hK h hn 0
theorem rpost_end {n K b o : Nat} {r1 r2 : Value} {z : Nat → Nat} {w : World} (hK : K = n) (d : Nat) : GetRPost n (.slice (some ⟨b, o, none⟩) n n) z K r1 r2 w (.returned (.tuple #[r1, .slice (some ⟨b, o, none⟩) 0 0, r2])) (w.drewN d) := by
  subst hK
  exact ⟨_, d, rfl, rfl, by rw [Nat.sub_self]; exact none_row _ _ _, nn_some _ _ _ _, fun S _ => Off.zero⟩
theorem rpost_tail {n K b o C : Nat} {r1 r2 : Value} {z : Nat → Nat} {w : World} (h : RowV w (.slice (some ⟨b, o, none⟩) n C) n z) (hK : K ≤ n) (h0 : 0 < n) (d : Nat) : GetRPost n (.slice (some ⟨b, o, none⟩) n C) z K r1 r2 w (.returned (.tuple #[r1, .slice (some ⟨b, o + K, none⟩) (n - K) (C - K), r2])) (w.drewN d) :=
  ⟨_, d, rfl, rfl, row_tail h hK, nn_some _ _ _ _, fun S hS => hS.part h0⟩
theorem half_top {v : Nat} : v ≤ T63 ↔ ¬ 4611686018427387903 < v / 2 := by unfold T63; omega
set_option maxHeartbeats 1000000 in
set_option maxRecDepth 100000 in
theorem rgetnum_any (A : Option Addr) (n C : Nat) (z : Nat → Nat) (k e : Nat) (w : World) (h : RowV w (.slice A n C) n z) (hnn : NN (.slice A n C)) (hr : Rd n z k e) :
    Calls Try.prog 33 #[.slice A n C] w (GetRPost n (.slice A n C) z (resK T63 z k e) (.int .i64 (resV T63 z k e : Int)) (.int .i64 (resE T63 z k e : Int)) w) := by
  obtain ⟨_, _, e0, hl, _⟩ := id h
  injection e0 with e0 _ e1
  subst e0
  subst e1
  have hl1 := hl.1
  have HV := Lib.hid h
  have HD := Lib.hid hr
  have HNN := Lib.hid hnn
  rcases rd_e hr with rfl | he
  case inr =>
    have he2 : ¬ e = 0 := by omega
    have hk : k = 0 := by omega
    have t1 : ((e : Int) != 0) = true := by simpa using he2
    have e1 : resV T63 z k e = 0 ∧ resK T63 z k e = 0 ∧ resE T63 z k e = e := by unfold resV resK resE; rw [if_neg he2, if_neg he2, if_neg he2]; exact ⟨rfl, rfl, rfl⟩
    rw [e1.1, e1.2.1, e1.2.2]
    subst hk
    clear h hnn hr hl he he2 e1
    go_enter Try.func33, Try.ntmps33
    go_wp2_with fail
    refine (run_any A n C z _ _ _ HV.out HD.out).mono ?_
    rintro e' w' ⟨rfl, rfl⟩
    go_wp2
    refine bodyPost_ret (v := .tuple #[.int .i64 0, .slice A n C, .int .i64 (e : Int)]) (by simp [results, Try.results33, go_sem]) rfl ?_
    exact rpost_all0 rfl HV.out HNN.out
  obtain ⟨hk0, hkn, hk10, _⟩ := rd_ok_short hr
  have hvt := val_top hr
  have HT := Lib.hid hvt
  obtain ⟨b, o, rfl, _⟩ := h.at (by omega)
  have HF := Lib.hid (row_front h hkn)
  have hl2 := hl.2
  have e5 : ((n - k : Nat) : Int) = (n : Int) - (k : Int) := by omega
  have e6 : ((C - k : Nat) : Int) = (C : Int) - (k : Int) := by omega
  by_cases htop : val z k ≤ T63
  · obtain ⟨r1, r2, r3⟩ := res_ok (k := k) rfl htop
    rw [r1, r2, r3]
    have t2 : decide ((4611686018427387903 : Int) < ((val z k / 2 : Nat) : Int)) = false := by have := half_top.1 htop; simp; omega
    have hsum : 2 * (val z k / 2) + val z k % 2 = val z k := by omega
    have hb : val z k ≤ 9223372036854775807 := htop
    obtain ⟨V, hV⟩ : ∃ V, V = val z k := ⟨_, rfl⟩
    have HVV := Lib.hid hV
    rw [← hV] at hsum hb t2 ⊢
    obtain ⟨H, hH⟩ : ∃ H, H = V / 2 := ⟨_, rfl⟩
    obtain ⟨O, hO⟩ : ∃ O, O = V % 2 := ⟨_, rfl⟩
    have HHH := Lib.hid hH
    have HOO := Lib.hid hO
    rw [← hH, ← hO] at hsum
    rw [← hH] at t2
    have hHl : H ≤ 4611686018427387903 := by omega
    have hOl : O ≤ 1 := by omega
    have HS := Lib.hid (show 2 * (H : Int) + (O : Int) = (V : Int) by omega)
    clear h hnn hr hl hvt htop r1 r2 r3 hV hH hO hsum hb
    by_cases hC : C = k
    · subst hC
      obtain rfl : n = C := by omega
      go_enter Try.func33, Try.ntmps33
      go_wp2_with fail
      refine (run_any _ n n z n 0 _ HV.out HD.out).mono ?_
      rintro e' w' ⟨rfl, rfl⟩
      go_wp2_with fail
      refine (halves_any _ n n z _ HF.out (by omega) (by omega) HT.out).mono ?_
      rintro e' w' ⟨rfl, rfl⟩
      rw [← HVV.out, ← HHH.out, ← HOO.out]
      go_wp2
      go_quiet (fail)
      go_wp2
      refine bodyPost_ret (v := .tuple #[.int .i64 (2 * (H : Int) + (O : Int)), .slice (some ⟨b, o, none⟩) 0 0, .int .i64 0]) (by simp [results, Try.results33, go_sem]) rfl ?_
      rw [HS.out]
      exact rpost_end rfl _
    · have t3 : (C : Int) - (k : Int) ≠ 0 := by omega
      go_enter Try.func33, Try.ntmps33
      go_wp2_with fail
      refine (run_any _ n C z k 0 _ HV.out HD.out).mono ?_
      rintro e' w' ⟨rfl, rfl⟩
      go_wp2_with fail
      refine (halves_any _ k C z _ HF.out (by omega) (by omega) HT.out).mono ?_
      rintro e' w' ⟨rfl, rfl⟩
      rw [← HVV.out, ← HHH.out, ← HOO.out]
      go_wp2
      go_quiet (fail)
      go_wp2
      refine bodyPost_ret (v := .tuple #[.int .i64 (2 * (H : Int) + (O : Int)), .slice (some ⟨b, o + k, none⟩) (n - k) (C - k), .int .i64 0]) (by simp [results, Try.results33, go_sem]) rfl ?_
      rw [HS.out]
      exact rpost_tail HV.out hkn (by omega) _
  · obtain ⟨r1, r2, r3⟩ := res_bad (k := k) (top := T63) (z := z) (e := 0) (Or.inr ⟨rfl, by omega⟩)
    rw [r1, r2, r3]
    have t2 : decide ((4611686018427387903 : Int) < ((val z k / 2 : Nat) : Int)) = true := by
      have : ¬ ¬ 4611686018427387903 < val z k / 2 := fun q => htop (half_top.2 q)
      simp; omega
    clear h hnn hr hl hvt htop r1 r2 r3
    obtain ⟨H, hH⟩ : ∃ H, H = val z k / 2 := ⟨_, rfl⟩
    have HHH := Lib.hid hH
    rw [← hH] at t2
    clear hH
    go_enter Try.func33, Try.ntmps33
    go_wp2_with fail
    refine (run_any _ n C z k 0 _ HV.out HD.out).mono ?_
    rintro e' w' ⟨rfl, rfl⟩
    go_wp2_with fail
    refine (halves_any _ k C z _ HF.out (by omega) (by omega) HT.out).mono ?_
    rintro e' w' ⟨rfl, rfl⟩
    rw [← HHH.out]
    go_wp2
    refine bodyPost_ret (v := .tuple #[.int .i64 0, .slice (some ⟨b, o, none⟩) n C, .int .i64 7]) (by simp [results, Try.results33, go_sem]) rfl ?_
    exact rpost_all0 rfl HV.out HNN.out
#print axioms rgetnum_any
end Go.Proofs.Ytjdknebifcdicaa
namespace Go.Proofs.Ytjdknebifcdicaa
open Go.RowKit
set_option linter.unusedVariables false
set_option maxRecDepth 100000

/-! ### a geometry -/
structure Ge where
  wal : Int
  st : Int
  k : Int
  m : Int
def geC (g : Ge) : Array Value := #[.int .i64 g.wal, .int .i64 g.st, .int .i64 g.k, .int .i64 g.m]
def G64 (x : Int) : Prop := -9223372036854775808 ≤ x ∧ x ≤ 9223372036854775807
structure GeIs (g : Ge) : Prop where
  wal : G64 g.wal
  st : G64 g.st
  k : G64 g.k
  m : G64 g.m
def inB (n a b : Int) : Bool := decide (a ≤ n ∧ n ≤ b)
theorem inB_true {n a b : Int} : inB n a b = true ↔ a ≤ n ∧ n ≤ b := decide_eq_true_iff
def mayG (g : Ge) : Bool := inB g.wal 8 512 && (inB g.st 1 32 && (inB g.k 1 16 && inB g.m 1 8))
/-- One that may be. -/
structure Gn where
  W : Nat
  S : Nat
  K : Nat
  M : Nat
structure Gn.Ok (n : Gn) : Prop where
  w1 : 8 ≤ n.W
  w2 : n.W ≤ 512
  s1 : 1 ≤ n.S
  s2 : n.S ≤ 32
  k1 : 1 ≤ n.K
  k2 : n.K ≤ 16
  m1 : 1 ≤ n.M
  m2 : n.M ≤ 8
def Gn.ge (n : Gn) : Ge := ⟨n.W, n.S, n.K, n.M⟩
theorem may_parts {g : Ge} (h : mayG g = true) : (8 ≤ g.wal ∧ g.wal ≤ 512) ∧ (1 ≤ g.st ∧ g.st ≤ 32) ∧ (1 ≤ g.k ∧ g.k ≤ 16) ∧ (1 ≤ g.m ∧ g.m ≤ 8) := by
  unfold mayG at h
  simp only [Bool.and_eq_true, inB_true] at h
  exact h
theorem may_nat {g : Ge} (h : mayG g = true) : ∃ n : Gn, n.Ok ∧ g = n.ge := by
  obtain ⟨⟨a1, a2⟩, ⟨b1, b2⟩, ⟨c1, c2⟩, ⟨d1, d2⟩⟩ := may_parts h
  obtain ⟨w, s, k, m⟩ := g
  simp only at *
  refine ⟨⟨w.toNat, s.toNat, k.toNat, m.toNat⟩, ⟨by simp only; omega, by simp only; omega, by simp only; omega, by simp only; omega, by simp only; omega, by simp only; omega, by simp only; omega, by simp only; omega⟩, ?_⟩
  unfold Gn.ge
  simp only [Ge.mk.injEq]
  omega
theorem ok_may {n : Gn} (h : n.Ok) : mayG n.ge = true := by
  unfold mayG
  simp only [Bool.and_eq_true, inB_true]
  have := h.w1
  have := h.w2
  have := h.s1
  have := h.s2
  have := h.k1
  have := h.k2
  have := h.m1
  have := h.m2
  refine ⟨?_, ?_, ?_, ?_⟩ <;> (unfold Gn.ge; simp only; omega)

namespace Gn
def q (n : Gn) : Nat := n.K + n.M
def fs (n : Gn) : Nat := 4 + 2 * n.W
def tot (n : Gn) : Nat := n.fs + 2 * (n.S * n.q)
def fg (n : Gn) : Nat := 1 + n.W
def grp (n : Gn) : Nat := n.fg + 2 * n.S
def cnt (n : Gn) (i : Nat) : Nat := if i = 0 then 4 else if i < n.fg then 2 else n.q
def brs (n : Gn) (i : Nat) : Nat := if i = 0 then 3 else if i < n.fg then 1 else n.M
def sec (n : Gn) (i p : Nat) : Nat := if i = 0 then p else if i < n.fg then 4 + p * n.W + (i - 1) else n.fs + (i - n.fg) * n.q + p
def ofA (n : Gn) (a : Nat) : Nat := if a < 4 then 0 else if a < n.fs then 1 + (a - 4) % n.W else n.fg + (a - n.fs) / n.q
def plA (n : Gn) (a : Nat) : Nat := if a < 4 then a else if a < n.fs then (a - 4) / n.W else (a - n.fs) % n.q
theorem Ok.q1 {n : Gn} (h : n.Ok) : 2 ≤ n.q := by have := h.k1; have := h.m1; unfold q; omega
theorem Ok.q2 {n : Gn} (h : n.Ok) : n.q ≤ 24 := by have := h.k2; have := h.m2; unfold q; omega
theorem Ok.t2 {n : Gn} (h : n.Ok) : n.S * n.q ≤ 768 := Nat.le_trans (Nat.mul_le_mul h.s2 h.q2) (by omega)
theorem Ok.fs2 {n : Gn} (h : n.Ok) : n.fs ≤ 1028 := by have := h.w2; unfold fs; omega
theorem Ok.tot2 {n : Gn} (h : n.Ok) : n.tot ≤ 2564 := by have := h.fs2; have := h.t2; unfold tot; omega
theorem Ok.grp2 {n : Gn} (h : n.Ok) : n.grp ≤ 577 := by have := h.w2; have := h.s2; unfold grp fg; omega
theorem cnt_le {n : Gn} (h : n.Ok) (i : Nat) : n.cnt i ≤ 24 := by have := h.q2; unfold cnt; split; omega; split <;> omega
theorem cnt_pos {n : Gn} (h : n.Ok) (i : Nat) : 2 ≤ n.cnt i := by have := h.q1; unfold cnt; split; omega; split <;> omega
theorem stripe_lt {n : Gn} {s p : Nat} (hs : s < 2 * n.S) (hp : p < n.q) : s * n.q + p < 2 * (n.S * n.q) := by
  have h1 : (s + 1) * n.q ≤ (2 * n.S) * n.q := Nat.mul_le_mul_right _ hs
  rw [Nat.add_mul, Nat.one_mul] at h1
  rw [← Nat.mul_assoc]
  omega
theorem slot_lt {n : Gn} {p : Nat} (hp : p < 2) : p * n.W ≤ n.W := by
  have : p = 0 ∨ p = 1 := by omega
  rcases this with rfl | rfl <;> omega
theorem sec_lt {n : Gn} (h : n.Ok) {i p : Nat} (hi : i < n.grp) (hp : p < n.cnt i) : n.sec i p < n.tot := by
  unfold cnt at hp
  unfold sec
  have := h.w1
  have hf : n.fs ≤ n.tot := Nat.le_add_right _ _
  by_cases e : i = 0
  · rw [if_pos e] at hp ⊢
    unfold fs at hf
    omega
  · rw [if_neg e] at hp ⊢
    by_cases e2 : i < n.fg
    · rw [if_pos e2] at hp ⊢
      have := slot_lt (n := n) hp
      unfold fs at hf
      unfold fg at e2
      omega
    · rw [if_neg e2] at hp ⊢
      have := stripe_lt (n := n) (s := i - n.fg) (p := p) (by unfold grp at hi; omega) hp
      unfold tot
      omega
theorem of_sec {n : Gn} (h : n.Ok) {i p : Nat} (hi : i < n.grp) (hp : p < n.cnt i) : n.ofA (n.sec i p) = i ∧ n.plA (n.sec i p) = p := by
  unfold cnt at hp
  have hw := h.w1
  have hq := h.q1
  by_cases e : i = 0
  · have es : n.sec i p = p := by unfold sec; rw [if_pos e]
    rw [if_pos e] at hp
    rw [es]
    unfold ofA plA
    rw [if_pos hp, if_pos hp]
    exact ⟨e.symm, rfl⟩
  · rw [if_neg e] at hp
    by_cases e2 : i < n.fg
    · rw [if_pos e2] at hp
      have es : n.sec i p = 4 + p * n.W + (i - 1) := by unfold sec; rw [if_neg e, if_pos e2]
      have := slot_lt (n := n) hp
      have l1 : i - 1 < n.W := by unfold fg at e2; omega
      have c1 : ¬ 4 + p * n.W + (i - 1) < 4 := by omega
      have c2 : 4 + p * n.W + (i - 1) < n.fs := by unfold fs; omega
      have c3 : 4 + p * n.W + (i - 1) - 4 = (i - 1) + n.W * p := by rw [Nat.mul_comm n.W p]; omega
      rw [es]
      unfold ofA plA
      rw [if_neg c1, if_pos c2, if_neg c1, if_pos c2, c3, Nat.add_mul_mod_self_left, Nat.mod_eq_of_lt l1, Nat.add_mul_div_left _ _ (by omega), Nat.div_eq_of_lt l1]
      omega
    · rw [if_neg e2] at hp
      have es : n.sec i p = n.fs + (i - n.fg) * n.q + p := by unfold sec; rw [if_neg e, if_neg e2]
      have hf : 4 ≤ n.fs := by unfold fs; omega
      have c1 : ¬ n.fs + (i - n.fg) * n.q + p < 4 := by omega
      have c2 : ¬ n.fs + (i - n.fg) * n.q + p < n.fs := by omega
      have c3 : n.fs + (i - n.fg) * n.q + p - n.fs = p + n.q * (i - n.fg) := by rw [Nat.mul_comm n.q]; omega
      rw [es]
      unfold ofA plA
      rw [if_neg c1, if_neg c2, if_neg c1, if_neg c2, c3, Nat.add_mul_mod_self_left, Nat.mod_eq_of_lt hp, Nat.add_mul_div_left _ _ (by omega), Nat.div_eq_of_lt hp]
      omega
theorem of_lt {n : Gn} (h : n.Ok) {a : Nat} (ha : a < n.tot) : n.ofA a < n.grp ∧ n.plA a < n.cnt (n.ofA a) ∧ n.sec (n.ofA a) (n.plA a) = a := by
  have hw := h.w1
  have hq := h.q1
  by_cases c1 : a < 4
  · have e1 : n.ofA a = 0 := by unfold ofA; rw [if_pos c1]
    have e2 : n.plA a = a := by unfold plA; rw [if_pos c1]
    rw [e1, e2]
    unfold cnt sec grp fg
    rw [if_pos rfl, if_pos rfl]
    exact ⟨by omega, c1, rfl⟩
  · by_cases c2 : a < n.fs
    · have e1 : n.ofA a = 1 + (a - 4) % n.W := by unfold ofA; rw [if_neg c1, if_pos c2]
      have e2 : n.plA a = (a - 4) / n.W := by unfold plA; rw [if_neg c1, if_pos c2]
      have m1 : (a - 4) % n.W < n.W := Nat.mod_lt _ (by omega)
      have m2 : (a - 4) / n.W < 2 := Nat.div_lt_of_lt_mul (by unfold fs at c2; rw [Nat.mul_comm]; omega)
      have m3 := Nat.div_add_mod (a - 4) n.W
      rw [e1, e2]
      generalize (a - 4) / n.W = D at m2 m3 ⊢
      generalize (a - 4) % n.W = E at m1 m3 ⊢
      have l1 : ¬ 1 + E = 0 := by omega
      have l2 : 1 + E < n.fg := by unfold fg; omega
      unfold cnt sec
      rw [if_neg l1, if_pos l2, if_neg l1, if_pos l2]
      refine ⟨by unfold grp; omega, m2, ?_⟩
      rw [Nat.mul_comm D n.W]
      omega
    · have e1 : n.ofA a = n.fg + (a - n.fs) / n.q := by unfold ofA; rw [if_neg c1, if_neg c2]
      have e2 : n.plA a = (a - n.fs) % n.q := by unfold plA; rw [if_neg c1, if_neg c2]
      have m1 : (a - n.fs) % n.q < n.q := Nat.mod_lt _ (by omega)
      have m2 : (a - n.fs) / n.q < 2 * n.S := Nat.div_lt_of_lt_mul (by
        unfold tot at ha
        rw [Nat.mul_comm n.q (2 * n.S), Nat.mul_assoc]
        omega)
      have m3 := Nat.div_add_mod (a - n.fs) n.q
      rw [e1, e2]
      generalize (a - n.fs) / n.q = D at m2 m3 ⊢
      generalize (a - n.fs) % n.q = E at m1 m3 ⊢
      have l1 : ¬ n.fg + D = 0 := by unfold fg; omega
      have l2 : ¬ n.fg + D < n.fg := by omega
      unfold cnt sec
      rw [if_neg l1, if_neg l2, if_neg l1, if_neg l2]
      refine ⟨by unfold grp; omega, m1, ?_⟩
      rw [Nat.add_sub_cancel_left, Nat.mul_comm D n.q]
      omega
theorem sec_mono {n : Gn} (h : n.Ok) {i p r : Nat} (hpr : p < r) (hr : r < n.cnt i) : n.sec i p < n.sec i r := by
  unfold cnt at hr
  unfold sec
  have hw := h.w1
  by_cases e : i = 0
  · rw [if_pos e, if_pos e]; exact hpr
  · rw [if_neg e] at hr
    rw [if_neg e, if_neg e]
    by_cases e2 : i < n.fg
    · rw [if_pos e2] at hr
      rw [if_pos e2, if_pos e2]
      obtain ⟨rfl, rfl⟩ : p = 0 ∧ r = 1 := by omega
      omega
    · rw [if_neg e2, if_neg e2]; omega
/-! ### the sectors of a group, counted one behind the other -/
structure Upto (n : Gn) (i a c : Nat) : Prop where
  le : c ≤ n.cnt i
  low : ∀ p, p < c → n.sec i p < a
  high : c < n.cnt i → a ≤ n.sec i c
theorem Upto.start (n : Gn) (i : Nat) : Upto n i 0 0 := ⟨Nat.zero_le _, fun p h => absurd h (Nat.not_lt_zero p), fun _ => Nat.zero_le _⟩
theorem Upto.at {n : Gn} (h : n.Ok) {i a c : Nat} (u : Upto n i a c) (ha : a < n.tot) (e : n.ofA a = i) : n.plA a = c ∧ c < n.cnt i ∧ n.sec i c = a := by
  obtain ⟨_, h2, h3⟩ := of_lt h ha
  rw [e] at h2 h3
  have h4 : ¬ n.plA a < c := fun q => by have := u.low _ q; omega
  have h5 : c < n.cnt i := by omega
  have h6 := u.high h5
  by_cases q : c < n.plA a
  · have := sec_mono h q h2; omega
  · have e2 : n.plA a = c := by omega
    exact ⟨e2, h5, by rw [← e2]; exact h3⟩
theorem Upto.hit {n : Gn} (h : n.Ok) {i a c : Nat} (u : Upto n i a c) (ha : a < n.tot) (e : n.ofA a = i) : Upto n i (a + 1) (c + 1) := by
  obtain ⟨_, h5, h6⟩ := u.at h ha e
  refine ⟨h5, fun p hp => ?_, fun hc => ?_⟩
  · by_cases q : p = c
    · rw [q, h6]; omega
    · have := u.low p (by omega); omega
  · have := sec_mono h (Nat.lt_succ_self c) hc
    rw [h6] at this
    exact this
theorem Upto.miss {n : Gn} (h : n.Ok) {i a c : Nat} (u : Upto n i a c) (hi : i < n.grp) (e : ¬ n.ofA a = i) : Upto n i (a + 1) c := by
  refine ⟨u.le, fun p hp => Nat.lt_succ_of_lt (u.low p hp), fun hc => ?_⟩
  have h1 := u.high hc
  have h2 : ¬ n.sec i c = a := fun q => e (by rw [← q]; exact (of_sec h hi hc).1)
  omega
theorem Upto.full {n : Gn} (h : n.Ok) {i c : Nat} (u : Upto n i n.tot c) (hi : i < n.grp) : c = n.cnt i := by
  by_cases q : c < n.cnt i
  · have := u.high q
    have := sec_lt h hi q
    omega
  · have := u.le; omega
/-! ### sectors that were seen, group by group, member by member -/
def seenN (n : Gn) (i k a : Nat) : Nat := if n.ofA a < i ∨ (n.ofA a = i ∧ n.plA a < k) then 1 else 0
theorem seen_start (n : Gn) (a : Nat) : seenN n 0 0 a = 0 := by unfold seenN; rw [if_neg (by omega)]
theorem seen_next {n : Gn} (h : n.Ok) {i a : Nat} (ha : a < n.tot) : seenN n i (n.cnt i) a = seenN n (i + 1) 0 a := by
  obtain ⟨_, h2, _⟩ := of_lt h ha
  unfold seenN
  by_cases q : n.ofA a < i ∨ n.ofA a = i
  · rw [if_pos (by
      rcases q with q | q
      · exact Or.inl q
      · exact Or.inr ⟨q, by rw [← q]; exact h2⟩), if_pos (by omega)]
  · rw [if_neg (by omega), if_neg (by omega)]
theorem seen_all {n : Gn} (h : n.Ok) {a : Nat} (ha : a < n.tot) : seenN n n.grp 0 a = 1 := by
  obtain ⟨h1, _⟩ := of_lt h ha
  unfold seenN; rw [if_pos (Or.inl h1)]
theorem seen_at {n : Gn} (h : n.Ok) {i k : Nat} (hi : i < n.grp) (hk : k < n.cnt i) : seenN n i k (n.sec i k) = 0 := by
  obtain ⟨e1, e2⟩ := of_sec h hi hk
  unfold seenN; rw [e1, e2, if_neg (by omega)]
theorem seen_step {n : Gn} (h : n.Ok) {i k a : Nat} (hi : i < n.grp) (hk : k < n.cnt i) (ha : a < n.tot) : seenN n i (k + 1) a = if a = n.sec i k then 1 else seenN n i k a := by
  obtain ⟨e1, e2⟩ := of_sec h hi hk
  obtain ⟨_, _, e3⟩ := of_lt h ha
  by_cases q : a = n.sec i k
  · rw [if_pos q]
    unfold seenN
    rw [q, e1, e2, if_pos (Or.inr ⟨rfl, Nat.lt_succ_self k⟩)]
  · rw [if_neg q]
    unfold seenN
    by_cases o : n.ofA a = i
    · have : ¬ n.plA a = k := fun e => q (by rw [← e, ← o]; exact e3.symm)
      by_cases l : n.plA a < k
      · rw [if_pos (by omega), if_pos (by omega)]
      · rw [if_neg (by omega), if_neg (by omega)]
    · by_cases l : n.ofA a < i
      · rw [if_pos (Or.inl l), if_pos (Or.inl l)]
      · rw [if_neg (by omega), if_neg (by omega)]
end Gn
#print axioms Gn.Upto.full
#print axioms Gn.seen_step

/-! ### a geometry in a variable -/
structure GeR (w w1 : World) (H : Nat) (g : Ge) : Prop where
  al : w.alloc (.cells (geC g) 23) = w1
  sz : w.heap.size = H
  cx : w1.heap[H]? = some (.cells (geC g) 23 (0, 0))
  ch : Ch (fun _ => False) w w1
theorem geR (w : World) (g : Ge) : ∃ w1 H, GeR w w1 H g := ⟨_, _, rfl, rfl, heap_alloc_new w _, (Ch.refl _ w).alloc _ _⟩
/-- A geometry stands in a variable. -/
structure GeX (w : World) (H : Nat) (g : Ge) : Prop where
  x0 : w.cell? ⟨H, 0, none⟩ = some (.int .i64 g.wal)
  x1 : w.cell? ⟨H, 1, none⟩ = some (.int .i64 g.st)
  x2 : w.cell? ⟨H, 2, none⟩ = some (.int .i64 g.k)
  x3 : w.cell? ⟨H, 3, none⟩ = some (.int .i64 g.m)
theorem GeR.x {w w1 : World} {H : Nat} {g : Ge} (h : GeR w w1 H g) : GeX w1 H g := ⟨blk_cell h.cx, blk_cell h.cx, blk_cell h.cx, blk_cell h.cx⟩
theorem GeX.gr {w w' : World} {H : Nat} {g : Ge} (h : GeX w H g) (k : Ch (fun _ => False) w w') : GeX w' H g := ⟨k.cell h.x0 (fun f => f), k.cell h.x1 (fun f => f), k.cell h.x2 (fun f => f), k.cell h.x3 (fun f => f)⟩
theorem GeX.off {S : Nat → Prop} {w w' : World} {H : Nat} {g : Ge} (h : GeX w H g) (k : Ch S w w') (hS : ¬ S H) : GeX w' H g := ⟨k.cell h.x0 hS, k.cell h.x1 hS, k.cell h.x2 hS, k.cell h.x3 hS⟩
theorem GeX.drew {w : World} {H : Nat} {g : Ge} (h : GeX w H g) : GeX w.drew H g := h.gr ((Ch.refl _ w).drew)
#print axioms GeX.gr
end Go.Proofs.Ytjdknebifcdicaa
