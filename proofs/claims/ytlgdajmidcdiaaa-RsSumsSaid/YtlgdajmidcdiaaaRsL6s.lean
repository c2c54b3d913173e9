/-
  RsSums, walked.
-/
import Derived.Test.YtlgdajmidcdiaaaRsL0
namespace Go.Proofs.Ytlgdajmidcdiaaa
open Go.RowKit
set_option linter.unusedVariables false

theorem radd_still (a b : Nat) (ha : a < 256) (hb : b < 256) (w : World) : Calls Try.prog 20 #[.int .u8 (a : Int), .int .u8 (b : Int)] w fun e w' => e = .returned (.int .u8 (xr a b : Int)) ∧ w' = w :=
  (radd_any (a : Int) (b : Int) (by omega) (by omega) (by omega) (by omega) w).mono fun _ _ ⟨he, hw⟩ => ⟨by rw [he]; simp, hw.symm⟩
theorem radd_quiet (a b : Nat) (ha : a < 256) (hb : b < 256) (w : World) (k : Nat) : Calls Try.prog 20 #[.int .u8 (a : Int), .int .u8 (b : Int)] (w.drewN k) fun e w' => e = .returned (.int .u8 (xr a b : Int)) ∧ ∃ m, w' = w.drewN m :=
  (radd_still a b ha hb (w.drewN k)).mono fun _ _ ⟨he, hw⟩ => ⟨he, k, hw⟩
def sumC (n k : Nat) (L M : Nat → Nat) (m : Int) : Prop := lightB n L = true ∧ lightB k M = true ∧ mayB n L = true ∧ mayB k M = true ∧ n = k ∧ L 0 = M 0 ∧ n ≤ 12 ∧ 0 ≤ m ∧ m ≤ 8
theorem mat_first {w : World} {b o n C : Nat} {L : Nat → Nat} {Z : Nat → Nat → Nat} (h : MatV w (.slice (some ⟨b, o, none⟩) n C) n L Z) (hn : 0 < n) : ∃ A D, w.cell? ⟨b, o, none⟩ = some (.slice A (L 0) D) := by
  obtain ⟨b', o', C', e', _, hrw⟩ := h.some hn
  injection e' with e1 e2 e3
  injection e1 with e1
  injection e1 with e4 e5
  subst e4
  subst e5
  obtain ⟨A, D, c, _⟩ := hrw 0 hn
  exact ⟨A, D, by rw [Nat.add_zero] at c; exact c⟩
set_option maxHeartbeats 3200000 in
set_option maxRecDepth 100000 in
theorem rsSums_short (va vb : Value) (n k : Nat) (L M : Nat → Nat) (X Y : Nat → Nat → Nat) (m : Int) (w : World) (ha : MatV w va n L X) (hb : MatV w vb k M Y) (h : ¬ sumC n k L M m) : Calls Try.prog 9 #[va, vb, .int .i64 m] w (Told w) := by
  obtain ⟨A, Ca, rfl, na, _⟩ := id ha
  obtain ⟨B, Cb, rfl, nb, _⟩ := id hb
  have HA := Lib.hid ha
  have HB := Lib.hid hb
  have HH := Lib.hid h
  clear ha hb h
  go_enter Try.func9, Try.ntmps9
  go_wp2_with fail
  refine (awake_any _).mono ?_
  rintro e w1 ⟨rfl, hch1⟩
  have HA1 := Lib.hid (HA.out.gr hch1)
  have HB1 := Lib.hid (HB.out.gr hch1)
  have HC1 := Lib.hid hch1
  clear hch1
  go_wp2_with fail
  refine (light_any _ n L X _ HA1.out).mono ?_
  rintro e w2 ⟨rfl, rfl⟩
  go_wp2_with fail
  refine (light_any _ k M Y _ HB1.out).mono ?_
  rintro e w2 ⟨rfl, rfl⟩
  go_wp2_with fail
  refine (rmay_any _ n L X _ HA1.out).mono ?_
  rintro e w3 ⟨rfl, d3, rfl⟩
  cases f3 : mayB n L with
  | false =>
    go_wp2
    cases f1 : lightB n L with
    | false =>
      go_quiet (fail)
      go_wp2
      go_ret
      exact ⟨rfl, (HC1.out.drewN _).drewN _⟩
    | true =>
    cases f2 : lightB k M with
    | false =>
      go_quiet (fail)
      go_wp2
      go_ret
      exact ⟨rfl, (HC1.out.drewN _).drewN _⟩
    | true =>
    go_quiet (fail)
    go_wp2
    go_ret
    exact ⟨rfl, (HC1.out.drewN _).drewN _⟩
  | true =>
  go_wp2_with fail
  refine (rmay_any _ k M Y _ (HB1.out.drewN _)).mono ?_
  rintro e w4 ⟨rfl, d4, rfl⟩
  rw [World.drewN_drewN]
  obtain ⟨w2, hw2⟩ : ∃ w2, w2 = w1.drewN (d3 + d4) := ⟨_, rfl⟩
  rw [← hw2]
  have HC2 := Lib.hid (show Ch (fun _ => False) w w2 by rw [hw2]; exact HC1.out.drewN _)
  have HA2 := Lib.hid (show MatV w2 (.slice A n Ca) n L X by rw [hw2]; exact HA1.out.drewN _)
  have HB2 := Lib.hid (show MatV w2 (.slice B k Cb) k M Y by rw [hw2]; exact HB1.out.drewN _)
  clear hw2
  go_wp2
  cases f1 : lightB n L with
  | false =>
    go_quiet (fail)
    go_wp2
    go_ret
    exact ⟨rfl, HC2.out.drewN _⟩
  | true =>
  cases f2 : lightB k M with
  | false =>
    go_quiet (fail)
    go_wp2
    go_ret
    exact ⟨rfl, HC2.out.drewN _⟩
  | true =>
  cases f4 : mayB k M with
  | false =>
    go_quiet (fail)
    go_wp2
    go_ret
    exact ⟨rfl, HC2.out.drewN _⟩
  | true =>
  have hn := (mayB_true f3).1
  have hkk := (mayB_true f4).1
  by_cases h5 : n = k
  case neg =>
    have t5 : ((n : Int) != (k : Int)) = true := by simp; omega
    go_quiet (fail)
    go_wp2
    go_ret
    exact ⟨rfl, HC2.out.drewN _⟩
  have t5 : ((n : Int) != (k : Int)) = false := by simp; omega
  obtain ⟨ba, oa, C1, e1, _, _⟩ := HA2.out.some (by omega)
  injection e1 with e1
  subst e1
  obtain ⟨bb, ob, C2, e2, _, _⟩ := HB2.out.some (by omega)
  injection e2 with e2
  subst e2
  obtain ⟨A0, D0, c0⟩ := mat_first HA2.out (by omega)
  obtain ⟨B0, E0, c1⟩ := mat_first HB2.out (by omega)
  have i0 : (0 : Int) < (n : Int) := by omega
  have i1 : (0 : Int) < (k : Int) := by omega
  have j0 : 0 < n := by omega
  have j1 : 0 < k := by omega
  have H5 := Lib.hid h5
  clear h5
  by_cases h6 : L 0 = M 0
  case neg =>
    have t6 : ((L 0 : Int) != (M 0 : Int)) = true := by simp; omega
    go_quiet (fail)
    go_wp2
    go_ret
    exact ⟨rfl, HC2.out.drewN _⟩
  have t6 : ((L 0 : Int) != (M 0 : Int)) = false := by simp; omega
  have H6 := Lib.hid h6
  clear h6
  by_cases h7 : n ≤ 12
  case neg =>
    have t7 : decide ((12 : Int) < (n : Int)) = true := by simp; omega
    go_quiet (fail)
    go_wp2
    go_ret
    exact ⟨rfl, HC2.out.drewN _⟩
  have t7 : decide ((12 : Int) < (n : Int)) = false := by simp; omega
  by_cases h8 : 0 ≤ m
  case neg =>
    have t8 : decide (m < 0) = true := by simp; omega
    go_quiet (fail)
    go_wp2
    go_ret
    exact ⟨rfl, HC2.out.drewN _⟩
  have t8 : decide (m < 0) = false := by simp; omega
  have t9 : decide (8 < m) = true := by
    have := HH.out
    simp
    by_cases q : m ≤ 8
    · exact absurd ⟨f1, f2, f3, f4, H5.out, H6.out, h7, h8, q⟩ this
    · omega
  go_quiet (fail)
  go_wp2
  go_ret
  exact ⟨rfl, HC2.out.drewN _⟩
#print axioms rsSums_short
end Go.Proofs.Ytlgdajmidcdiaaa
