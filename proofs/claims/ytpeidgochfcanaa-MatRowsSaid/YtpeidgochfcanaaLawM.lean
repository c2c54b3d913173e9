/-
  MatMakes, walked.
-/
import Derived.Test.YtpeidgochfcanaaLawA
namespace Go.Proofs.Ytpeidgochfcanaa
open Go.RowKit
set_option linter.unusedVariables false

/-! ### MatMakes -/
/-- What is answered: a matrix and no error, or nothing and ErrArg; which, and what, hangs on c, n, m and Z alone. -/
def Ans (c : Prop) (n m : Nat) (Z : Nat → Nat → Nat) (w : World) (e : Ending) (w' : World) : Prop :=
  ∃ (A : Option Addr) (len C : Nat) (k : Int), e = .returned (.tuple #[.slice A len C, .int .i64 k]) ∧ Ch (fun _ => False) w w' ∧ ((c ∧ k = 0 ∧ MatV w' (.slice A len C) n (fun _ => m) Z) ∨ (¬ c ∧ k = 1 ∧ MatV w' (.slice A len C) 0 (fun _ => m) Z))
theorem ans_yes {c : Prop} {n m : Nat} {Z : Nat → Nat → Nat} {w : World} {e : Ending} {w' : World} (hc : c) (h : MatPost n m Z w e w') : Ans c n m Z w e w' := by
  obtain ⟨v, rfl, hM, hch⟩ := h
  obtain ⟨A, C, rfl, _⟩ := id hM
  exact ⟨A, n, C, 0, rfl, hch, Or.inl ⟨hc, rfl, hM⟩⟩
theorem ans_no {c : Prop} {n m : Nat} {Z : Nat → Nat → Nat} {w : World} {e : Ending} {w' : World} (hc : ¬ c) (h : ErrPost 1 w e w') : Ans c n m Z w e w' := by
  obtain ⟨rfl, hch⟩ := h
  exact ⟨none, 0, 0, 1, rfl, hch, Or.inr ⟨hc, rfl, nil_mat _ _ _⟩⟩
theorem one_ans (n : Int) (w : World) : Calls Try.prog 10 #[.int .i64 n] w (Ans (1 ≤ n ∧ n ≤ 64) n.toNat n.toNat oneZ w) := by
  by_cases h : 1 ≤ n ∧ n ≤ 64
  · exact (one_yes n h.1 h.2 w).mono fun _ _ q => ans_yes h q
  · exact (one_no n h w).mono fun _ _ q => ans_no h q
theorem rone_ans (n : Int) (w : World) : Calls Try.prog 11 #[.int .i64 n] w (Ans (1 ≤ n ∧ n ≤ 64) n.toNat n.toNat oneZ w) := by
  by_cases h : 1 ≤ n ∧ n ≤ 64
  · exact (rone_yes n h.1 h.2 w).mono fun _ _ q => ans_yes h q
  · exact (rone_no n h w).mono fun _ _ q => ans_no h q
theorem cauchy_ans (n m : Int) (w : World) : Calls Try.prog 12 #[.int .i64 n, .int .i64 m] w (Ans (1 ≤ n ∧ n ≤ 64 ∧ 1 ≤ m ∧ m ≤ 64) n.toNat m.toNat (cauZ m.toNat) w) := by
  by_cases h : 1 ≤ n ∧ n ≤ 64 ∧ 1 ≤ m ∧ m ≤ 64
  · exact (cauchy_yes n m h.1 h.2.1 h.2.2.1 h.2.2.2 w).mono fun _ _ q => ans_yes h q
  · exact (cauchy_no n m h w).mono fun _ _ q => ans_no h q
theorem rcauchy_ans (n m : Int) (w : World) : Calls Try.prog 13 #[.int .i64 n, .int .i64 m] w (Ans (1 ≤ n ∧ n ≤ 64 ∧ 1 ≤ m ∧ m ≤ 64) n.toNat m.toNat (cauZ m.toNat) w) := by
  by_cases h : 1 ≤ n ∧ n ≤ 64 ∧ 1 ≤ m ∧ m ≤ 64
  · exact (rcauchy_yes n m h.1 h.2.1 h.2.2.1 h.2.2.2 w).mono fun _ _ q => ans_yes h q
  · exact (rcauchy_no n m h w).mono fun _ _ q => ans_no h q
/-- Two answers of one kind are the same. -/
theorem ans_same {c : Prop} {n m : Nat} {Z : Nat → Nat → Nat} {w : World} {A B : Option Addr} {a b C D : Nat} {k l : Int}
    (h1 : (c ∧ k = 0 ∧ MatV w (.slice A a C) n (fun _ => m) Z) ∨ (¬ c ∧ k = 1 ∧ MatV w (.slice A a C) 0 (fun _ => m) Z)) (h2 : (c ∧ l = 0 ∧ MatV w (.slice B b D) n (fun _ => m) Z) ∨ (¬ c ∧ l = 1 ∧ MatV w (.slice B b D) 0 (fun _ => m) Z)) :
    k = l ∧ ∃ q, MatV w (.slice A a C) q (fun _ => m) Z ∧ MatV w (.slice B b D) q (fun _ => m) Z := by
  rcases h1 with ⟨hc, e1, m1⟩ | ⟨hc, e1, m1⟩
  · rcases h2 with ⟨_, e2, m2⟩ | ⟨hn, _⟩
    · exact ⟨by rw [e1, e2], n, m1, m2⟩
    · exact absurd hc hn
  · rcases h2 with ⟨hn, _⟩ | ⟨_, e2, m2⟩
    · exact absurd hn hc
    · exact ⟨by rw [e1, e2], 0, m1, m2⟩
theorem ans_ch {c : Prop} {n m : Nat} {Z : Nat → Nat → Nat} {w w' : World} {v : Value} {k : Int} (hch : Ch (fun _ => False) w w')
    (h : (c ∧ k = 0 ∧ MatV w v n (fun _ => m) Z) ∨ (¬ c ∧ k = 1 ∧ MatV w v 0 (fun _ => m) Z)) : (c ∧ k = 0 ∧ MatV w' v n (fun _ => m) Z) ∨ (¬ c ∧ k = 1 ∧ MatV w' v 0 (fun _ => m) Z) := by
  rcases h with ⟨a, b, d⟩ | ⟨a, b, d⟩
  · exact Or.inl ⟨a, b, d.gr hch⟩
  · exact Or.inr ⟨a, b, d.gr hch⟩
set_option maxHeartbeats 3200000 in
set_option maxRecDepth 100000 in
theorem matMakes_any (va : Value) (n : Nat) (L : Nat → Nat) (X : Nat → Nat → Nat) (r c : Int) (w : World) (ha : MatV w va n L X) : Calls Try.prog 3 #[va, .int .i64 r, .int .i64 c] w (Told w) := by
  have HA := Lib.hid ha
  by_cases hn : n ≤ 70
  · have t1 : decide ((70 : Int) < (n : Int)) = false := by simp; omega
    by_cases h0 : 0 < n
    · obtain ⟨b, o, C, rfl, nb, hr⟩ := ha.some h0
      have HR := Lib.hid hr
      clear hr ha
      go_enter Try.func3, Try.ntmps3
      go_wp2_with fail
      refine (awake_any _).mono ?_
      rintro e w1 ⟨rfl, hch1⟩
      have HA1 := Lib.hid (HA.out.gr hch1)
      have HC1 := Lib.hid hch1
      clear hch1
      go_wp2
      go_loop [8] (fun i => ∃ k : Nat, k ≤ n ∧ i = .int .i64 k) (fun i => n - (intOf i).toNat)
      case atStart => exact ⟨0, Nat.zero_le _, rfl⟩
      case round =>
        obtain ⟨k, hk, rfl⟩ := hrel
        by_cases hlt : k < n
        · obtain ⟨Ak, Dk, ck0, lk, _⟩ := HR.out k hlt
          have ck := HC1.out.cell ck0 (fun f => f)
          clear ck0
          by_cases h5 : L k ≤ 5000
          · have t2 : decide ((5000 : Int) < (L k : Int)) = false := by simp; omega
            go_wp2
            go_round
            case rel => exact ⟨k + 1, by omega, by go_num⟩
            case measure => simp [intOf]; omega
          · have t2 : decide ((5000 : Int) < (L k : Int)) = true := by simp; omega
            go_wp2
            go_ret
            exact ⟨rfl, HC1.out⟩
        · clear HR
          go_wp2_with fail
          refine (one_ans _ _).mono ?_
          rintro e w2 ⟨A1, l1, C1, k1, rfl, hc2, hs1⟩
          have HC2 := Lib.hid hc2
          have HS1 := Lib.hid hs1
          clear hc2 hs1
          go_wp2_with fail
          refine (rone_ans _ _).mono ?_
          rintro e w3 ⟨A2, l2, C2, k2, rfl, hc3, hs2⟩
          have HC3 := Lib.hid hc3
          have HS2 := Lib.hid hs2
          clear hc3 hs2
          go_wp2_with fail
          refine (cauchy_ans _ _ _).mono ?_
          rintro e w4 ⟨A3, l3, C3, k3, rfl, hc4, hs3⟩
          have HC4 := Lib.hid hc4
          have HS3 := Lib.hid hs3
          clear hc4 hs3
          go_wp2_with fail
          refine (rcauchy_ans _ _ _).mono ?_
          rintro e w5 ⟨A4, l4, C4, k4, rfl, hc5, hs4⟩
          have HC5 := Lib.hid hc5
          obtain ⟨e1, q1, ma, mb⟩ := ans_same (ans_ch (HC3.out.trans (HC4.out.trans hc5)) HS1.out) (ans_ch (HC4.out.trans hc5) HS2.out)
          obtain ⟨e2, q2, mc, md⟩ := ans_same (ans_ch hc5 HS3.out) hs4
          have b1 : (k1 == k2) = true := by simp [e1]
          have b2 : (k3 == k4) = true := by simp [e2]
          have b3 : (mayB n L == mayB n L) = true := by simp
          have MA := Lib.hid ma
          have MB := Lib.hid mb
          have MC := Lib.hid mc
          have MD := Lib.hid md
          have HAF := Lib.hid (HA1.out.gr (HC2.out.trans (HC3.out.trans (HC4.out.trans hc5))))
          have HCF := Lib.hid (HC1.out.trans (HC2.out.trans (HC3.out.trans (HC4.out.trans hc5))))
          clear hc5 hs4 e1 e2 ma mb mc md HC2 HC3 HC4 HC5 HS1 HS2 HS3
          go_wp2_with fail
          refine (same_any _ _ q1 _ _ _ MA.out MB.out).mono ?_
          rintro e w6 ⟨rfl, d6, rfl⟩
          go_wp2_with fail
          refine (same_any _ _ q2 _ _ _ (MC.out.drewN _) (MD.out.drewN _)).mono ?_
          rintro e w7 ⟨rfl, d7, rfl⟩
          go_wp2_with fail
          refine (may_any _ n L X _ (HAF.out.drewN _)).mono ?_
          rintro e w8 ⟨rfl, rfl⟩
          go_wp2_with fail
          refine (rmay_any _ n L X _ (HAF.out.drewN _)).mono ?_
          rintro e w9 ⟨rfl, d9, rfl⟩
          go_wp2
          go_ret
          exact ⟨rfl, HCF.out.drewN _⟩
    · obtain rfl : n = 0 := by omega
      obtain ⟨A, C, rfl⟩ := ha.none
      clear ha h0
      go_enter Try.func3, Try.ntmps3
      go_wp2_with fail
      refine (awake_any _).mono ?_
      rintro e w1 ⟨rfl, hch1⟩
      have HA1 := Lib.hid (HA.out.gr hch1)
      have HC1 := Lib.hid hch1
      clear hch1
      go_wp2
      refine wp_loop_rounds 1 ?_
      rw [rounds_succ]
      go_wp2_with fail
      refine (one_ans _ _).mono ?_
      rintro e w2 ⟨A1, l1, C1, k1, rfl, hc2, hs1⟩
      have HC2 := Lib.hid hc2
      have HS1 := Lib.hid hs1
      clear hc2 hs1
      go_wp2_with fail
      refine (rone_ans _ _).mono ?_
      rintro e w3 ⟨A2, l2, C2, k2, rfl, hc3, hs2⟩
      have HC3 := Lib.hid hc3
      have HS2 := Lib.hid hs2
      clear hc3 hs2
      go_wp2_with fail
      refine (cauchy_ans _ _ _).mono ?_
      rintro e w4 ⟨A3, l3, C3, k3, rfl, hc4, hs3⟩
      have HC4 := Lib.hid hc4
      have HS3 := Lib.hid hs3
      clear hc4 hs3
      go_wp2_with fail
      refine (rcauchy_ans _ _ _).mono ?_
      rintro e w5 ⟨A4, l4, C4, k4, rfl, hc5, hs4⟩
      have HC5 := Lib.hid hc5
      obtain ⟨e1, q1, ma, mb⟩ := ans_same (ans_ch (HC3.out.trans (HC4.out.trans hc5)) HS1.out) (ans_ch (HC4.out.trans hc5) HS2.out)
      obtain ⟨e2, q2, mc, md⟩ := ans_same (ans_ch hc5 HS3.out) hs4
      have b1 : (k1 == k2) = true := by simp [e1]
      have b2 : (k3 == k4) = true := by simp [e2]
      have b3 : (mayB 0 L == mayB 0 L) = true := by simp
      have MA := Lib.hid ma
      have MB := Lib.hid mb
      have MC := Lib.hid mc
      have MD := Lib.hid md
      have HAF := Lib.hid (HA1.out.gr (HC2.out.trans (HC3.out.trans (HC4.out.trans hc5))))
      have HCF := Lib.hid (HC1.out.trans (HC2.out.trans (HC3.out.trans (HC4.out.trans hc5))))
      clear hc5 hs4 e1 e2 ma mb mc md HC2 HC3 HC4 HC5 HS1 HS2 HS3
      go_wp2_with fail
      refine (same_any _ _ q1 _ _ _ MA.out MB.out).mono ?_
      rintro e w6 ⟨rfl, d6, rfl⟩
      go_wp2_with fail
      refine (same_any _ _ q2 _ _ _ (MC.out.drewN _) (MD.out.drewN _)).mono ?_
      rintro e w7 ⟨rfl, d7, rfl⟩
      go_wp2_with fail
      refine (may_any _ 0 L X _ (HAF.out.drewN _)).mono ?_
      rintro e w8 ⟨rfl, rfl⟩
      go_wp2_with fail
      refine (rmay_any _ 0 L X _ (HAF.out.drewN _)).mono ?_
      rintro e w9 ⟨rfl, d9, rfl⟩
      go_wp2
      go_ret
      exact ⟨rfl, HCF.out.drewN _⟩
  · have t1 : decide ((70 : Int) < (n : Int)) = true := by simp; omega
    obtain ⟨A, C, rfl, nb, _⟩ := ha
    go_enter Try.func3, Try.ntmps3
    go_wp2_with fail
    refine (awake_any _).mono ?_
    rintro e w1 ⟨rfl, hch1⟩
    go_wp2
    go_ret
    exact ⟨rfl, hch1⟩
theorem matMakes_of (va : Value) (r c : Int) (w : World) {n : Nat} {L : Nat → Nat} {X : Nat → Nat → Nat} (ha : MatV w va n L X) (hr : -9223372036854775808 ≤ r ∧ r ≤ 9223372036854775807) (hc : -9223372036854775808 ≤ c ∧ c ≤ 9223372036854775807) : Calls Try.prog 3 #[va, .int .i64 r, .int .i64 c] w (Told w) := matMakes_any va n L X r c w ha
#print axioms matMakes_any
end Go.Proofs.Ytpeidgochfcanaa
