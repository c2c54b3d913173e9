/-
  RsEncodes, walked.
-/
import Derived.Test.YtlgdajmidcdiaaaRsW
import Derived.Test.YtlgdajmidcdiaaaRsRef
namespace Go.Proofs.Ytlgdajmidcdiaaa
open Go.RowKit
set_option linter.unusedVariables false

/-- What is answered: a matrix and no error, or nothing and ErrArg; which, and what, hangs on c, n, m and Z alone. -/
def Ans (c : Prop) (n m : Nat) (Z : Nat → Nat → Nat) (w : World) (e : Ending) (w' : World) : Prop :=
  ∃ (A : Option Addr) (len C : Nat) (k : Int), e = .returned (.tuple #[.slice A len C, .int .i64 k]) ∧ Ch (fun _ => False) w w' ∧ ((c ∧ k = 0 ∧ MatV w' (.slice A len C) n (fun _ => m) Z) ∨ (¬ c ∧ k = 1 ∧ MatV w' (.slice A len C) 0 (fun _ => m) Z))
theorem ans_yes {c : Prop} {n m : Nat} {Z : Nat → Nat → Nat} {w : World} {e : Ending} {w' : World} (hc : c) (h : MatPost n m Z w e w') : Ans c n m Z w e w' := by
  obtain ⟨v, rfl, hM, hch⟩ := h
  obtain ⟨A, C, rfl, _⟩ := id hM
  exact ⟨A, n, C, 0, rfl, hch, Or.inl ⟨hc, rfl, hM⟩⟩
theorem ans_no {c : Prop} {n m : Nat} {Z : Nat → Nat → Nat} {w : World} {e : Ending} {w' : World} (hc : ¬ c) (h : ErrPost 1 w e w') : Ans c n m Z w e w' := by
  obtain ⟨rfl, hch⟩ := h
  exact ⟨none, 0, 0, 1, rfl, hch, Or.inr ⟨hc, rfl, nil_mat _ _ _⟩⟩
/-- Two answers of one kind are the same. -/
theorem ans_same {c : Prop} {n m : Nat} {Z : Nat → Nat → Nat} {w : World} {A B : Option Addr} {a b C D : Nat} {k l : Int}
    (h1 : (c ∧ k = 0 ∧ MatV w (.slice A a C) n (fun _ => m) Z) ∨ (¬ c ∧ k = 1 ∧ MatV w (.slice A a C) 0 (fun _ => m) Z)) (h2 : (c ∧ l = 0 ∧ MatV w (.slice B b D) n (fun _ => m) Z) ∨ (¬ c ∧ l = 1 ∧ MatV w (.slice B b D) 0 (fun _ => m) Z)) :
    k = l ∧ ∃ q, MatV w (.slice A a C) q (fun _ => m) Z ∧ MatV w (.slice B b D) q (fun _ => m) Z := by
  rcases h1 with ⟨hc, e1, m1⟩ | ⟨hc, e1, m1⟩
  · rcases h2 with ⟨_, e2, m2⟩ | ⟨hn, _⟩
    · exact ⟨by rw [e1, e2], n, m1, m2⟩
    · exact absurd hc hn
  · rcases h2 with ⟨hn, _⟩ | ⟨_, e2, m2⟩
    · exact absurd hn hc
    · exact ⟨by rw [e1, e2], 0, m1, m2⟩
theorem ans_ch {c : Prop} {n m : Nat} {Z : Nat → Nat → Nat} {w w' : World} {v : Value} {k : Int} (hch : Ch (fun _ => False) w w')
    (h : (c ∧ k = 0 ∧ MatV w v n (fun _ => m) Z) ∨ (¬ c ∧ k = 1 ∧ MatV w v 0 (fun _ => m) Z)) : (c ∧ k = 0 ∧ MatV w' v n (fun _ => m) Z) ∨ (¬ c ∧ k = 1 ∧ MatV w' v 0 (fun _ => m) Z) := by
  rcases h with ⟨a, b, d⟩ | ⟨a, b, d⟩
  · exact Or.inl ⟨a, b, d.gr hch⟩
  · exact Or.inr ⟨a, b, d.gr hch⟩

def encC (n : Nat) (L : Nat → Nat) (m : Int) : Prop := mayB n L = true ∧ 0 ≤ m ∧ (n : Int) + m ≤ 64
theorem encode_ans (va : Value) (n : Nat) (m : Int) (L : Nat → Nat) (X : Nat → Nat → Nat) (w : World) (ha : MatV w va n L X) : Calls Try.prog 12 #[va, .int .i64 m] w (Ans (encC n L m) m.toNat (L 0) (mulZ n (cauZ n) X) w) := by
  by_cases h : encC n L m
  · have h' := id h
    obtain ⟨h1, h2, h3⟩ := h'
    obtain ⟨m, rfl⟩ := Int.eq_ofNat_of_zero_le h2
    exact (encode_new va n m L X w ha h1 (by omega)).mono fun _ _ q => ans_yes h (q.mat (by omega))
  · exact (encode_no va n m L X w ha h).mono fun _ _ q => ans_no h q
theorem rencode_ans (va : Value) (n : Nat) (m : Int) (L : Nat → Nat) (X : Nat → Nat → Nat) (w : World) (ha : MatV w va n L X) : Calls Try.prog 13 #[va, .int .i64 m] w (Ans (encC n L m) m.toNat (L 0) (mulZ n (cauZ n) X) w) := by
  by_cases h : encC n L m
  · have h' := id h
    obtain ⟨h1, h2, h3⟩ := h'
    obtain ⟨m, rfl⟩ := Int.eq_ofNat_of_zero_le h2
    exact (rencode_new va n m L X w ha h1 (by omega)).mono fun _ _ q => ans_yes h (q.mat (by omega))
  · exact (rencode_no va n m L X w ha h).mono fun _ _ q => ans_no h q
def rowC (k m : Int) : Prop := 1 ≤ k ∧ 0 ≤ m ∧ k + m ≤ 64
theorem rows_ans (k m : Int) (w : World) : Calls Try.prog 14 #[.int .i64 k, .int .i64 m] w (Ans (rowC k m) (k.toNat + m.toNat) k.toNat (allZ k.toNat) w) := by
  by_cases h : rowC k m
  · have h' := id h
    obtain ⟨h1, h2, h3⟩ := h'
    obtain ⟨m, rfl⟩ := Int.eq_ofNat_of_zero_le h2
    obtain ⟨k, rfl⟩ := Int.eq_ofNat_of_zero_le (show 0 ≤ k by omega)
    exact (rows_new k m (by omega) (by omega) w).mono fun _ _ q => ans_yes h (q.mat (by omega))
  · exact (rows_no k m h w).mono fun _ _ q => ans_no h q
theorem rrows_ans (k m : Int) (w : World) : Calls Try.prog 15 #[.int .i64 k, .int .i64 m] w (Ans (rowC k m) (k.toNat + m.toNat) k.toNat (allZ k.toNat) w) := by
  by_cases h : rowC k m
  · have h' := id h
    obtain ⟨h1, h2, h3⟩ := h'
    obtain ⟨m, rfl⟩ := Int.eq_ofNat_of_zero_le h2
    obtain ⟨k, rfl⟩ := Int.eq_ofNat_of_zero_le (show 0 ≤ k by omega)
    exact (rrows_new k m (by omega) (by omega) w).mono fun _ _ q => ans_yes h (q.mat (by omega))
  · exact (rrows_no k m h w).mono fun _ _ q => ans_no h q
set_option maxHeartbeats 3200000 in
set_option maxRecDepth 100000 in
theorem rsEncodes_any (va : Value) (n : Nat) (L : Nat → Nat) (X : Nat → Nat → Nat) (m k : Int) (w : World) (ha : MatV w va n L X) : Calls Try.prog 3 #[va, .int .i64 m, .int .i64 k] w (Told w) := by
  obtain ⟨A, Ca, rfl, na, _⟩ := id ha
  have HA := Lib.hid ha
  clear ha
  go_enter Try.func3, Try.ntmps3
  go_wp2_with fail
  refine (awake_any _).mono ?_
  rintro e w1 ⟨rfl, hch1⟩
  have HA1 := Lib.hid (HA.out.gr hch1)
  have HC1 := Lib.hid hch1
  clear hch1
  go_wp2_with fail
  refine (light_any _ n L X _ HA1.out).mono ?_
  rintro e w2 ⟨rfl, rfl⟩
  cases f1 : lightB n L with
  | false =>
    go_wp2
    go_ret
    exact ⟨rfl, HC1.out⟩
  | true =>
    clear f1
    go_wp2_with fail
    refine (encode_ans _ n m L X _ HA1.out).mono ?_
    rintro e w2 ⟨A2, l2, C2, k2, rfl, hch2, hr2⟩
    have HR2 := Lib.hid hr2
    have HC2 := Lib.hid hch2
    clear hr2 hch2
    go_wp2_with fail
    refine (rencode_ans _ n m L X _ (HA1.out.gr HC2.out)).mono ?_
    rintro e w3 ⟨A3, l3, C3, k3, rfl, hch3, hr3⟩
    obtain ⟨rfl, q2, ha2, ha3⟩ := ans_same (ans_ch hch3 HR2.out) hr3
    have HA2 := Lib.hid ha2
    have HA3 := Lib.hid ha3
    have HC3 := Lib.hid hch3
    clear hr3 hch3 ha2 ha3 HR2
    go_wp2_with fail
    refine (rows_ans k m _).mono ?_
    rintro e w4 ⟨A4, l4, C4, k4, rfl, hch4, hr4⟩
    have HR4 := Lib.hid hr4
    have HC4 := Lib.hid hch4
    clear hr4 hch4
    go_wp2_with fail
    refine (rrows_ans k m _).mono ?_
    rintro e w5 ⟨A5, l5, C5, k5, rfl, hch5, hr5⟩
    obtain ⟨rfl, q4, ha4, ha5⟩ := ans_same (ans_ch hch5 HR4.out) hr5
    have HA4 := Lib.hid ha4
    have HA5 := Lib.hid ha5
    have HC5 := Lib.hid hch5
    clear hr5 hch5 ha4 ha5 HR4
    go_wp2_with fail
    refine (same_any _ _ q2 (fun _ => L 0) (mulZ n (cauZ n) X) _ (HA2.out.gr (HC4.out.trans HC5.out)) (HA3.out.gr (HC4.out.trans HC5.out))).mono ?_
    rintro e w6 ⟨rfl, d6, rfl⟩
    go_wp2_with fail
    refine (same_any _ _ q4 (fun _ => k.toNat) (allZ k.toNat) _ (HA4.out.drewN _) (HA5.out.drewN _)).mono ?_
    rintro e w7 ⟨rfl, d7, rfl⟩
    go_wp2
    go_ret
    exact ⟨rfl, ((((HC1.out.trans HC2.out).trans HC3.out).trans HC4.out).trans HC5.out).drewN _⟩
theorem rsEncodes_of (va : Value) (m k : Int) (w : World) {n : Nat} {L : Nat → Nat} {X : Nat → Nat → Nat} (ha : MatV w va n L X) (hm : -9223372036854775808 ≤ m ∧ m ≤ 9223372036854775807) (hk : -9223372036854775808 ≤ k ∧ k ≤ 9223372036854775807) : Calls Try.prog 3 #[va, .int .i64 m, .int .i64 k] w (Told w) := rsEncodes_any va n L X m k w ha
#print axioms rsEncodes_any
end Go.Proofs.Ytlgdajmidcdiaaa
