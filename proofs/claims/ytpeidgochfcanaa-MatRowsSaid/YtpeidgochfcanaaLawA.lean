/-
  MatProducts and MatMakes, walked.
-/
import Derived.Test.YtpeidgochfcanaaAwake
namespace Go.Proofs.Ytpeidgochfcanaa
open Go.RowKit
set_option linter.unusedVariables false

theorem nil_mat (w : World) (L : Nat → Nat) (Z : Nat → Nat → Nat) : MatV w (.slice none 0 0) 0 L Z := ⟨none, 0, rfl, by omega, fun h => absurd h (Nat.lt_irrefl 0)⟩
theorem ten : (10 : Int).toNat = 10 := rfl
set_option maxHeartbeats 1600000 in
theorem matProducts_any (va vb : Value) (n k : Nat) (L M : Nat → Nat) (X Y : Nat → Nat → Nat) (w : World) (ha : MatV w va n L X) (hb : MatV w vb k M Y) : Calls Try.prog 4 #[va, vb] w (Told w) := by
  obtain ⟨A, Ca, rfl, na, _⟩ := id ha
  obtain ⟨B, Cb, rfl, nb, _⟩ := id hb
  have HA := Lib.hid ha
  have HB := Lib.hid hb
  clear ha hb
  go_enter Try.func4, Try.ntmps4
  go_wp2_with fail
  refine (awake_any _).mono ?_
  rintro e w1 ⟨rfl, hch1⟩
  have HA1 := Lib.hid (HA.out.gr hch1)
  have HB1 := Lib.hid (HB.out.gr hch1)
  have HC1 := Lib.hid hch1
  clear hch1
  go_wp2_with fail
  refine (few_any _ n L X _ (by omega) (by omega) _ HA1.out).mono ?_
  rintro e w2 ⟨rfl, rfl⟩
  rw [ten]
  go_wp2_with fail
  refine (few_any _ k M Y _ (by omega) (by omega) _ HB1.out).mono ?_
  rintro e w2 ⟨rfl, rfl⟩
  rw [ten]
  cases f1 : fewB n L 10 with
  | false =>
    go_wp2
    go_ret
    exact ⟨rfl, HC1.out⟩
  | true =>
    cases f2 : fewB k M 10 with
    | false =>
      go_wp2
      go_ret
      exact ⟨rfl, HC1.out⟩
    | true =>
      clear f1 f2
      by_cases hc : mayB n L = true ∧ mayB k M = true ∧ L 0 = k
      · obtain ⟨m1, m2, hk⟩ := hc
        have HK := Lib.hid hk
        have M1 := Lib.hid m1
        have M2 := Lib.hid m2
        clear hk m1 m2
        go_wp2_with fail
        refine (mul_yes _ _ n k L M X Y _ HA1.out HB1.out M1.out M2.out HK.out).mono ?_
        rintro e w2 ⟨v, rfl, hM, hch2⟩
        obtain ⟨A', C', rfl, _⟩ := id hM
        have HM := Lib.hid hM
        have HC2 := Lib.hid hch2
        clear hM hch2
        go_wp2_with fail
        refine (rmulM_yes _ _ n k L M X Y _ (HA1.out.gr HC2.out) (HB1.out.gr HC2.out) M1.out M2.out HK.out).mono ?_
        rintro e w3 ⟨v', rfl, hM', hch3⟩
        obtain ⟨A'', C'', rfl, _⟩ := id hM'
        have HM' := Lib.hid hM'
        have HC3 := Lib.hid hch3
        clear hM' hch3
        go_wp2_with fail
        refine (same_any _ _ n (fun _ => M 0) (mulZ k X Y) _ (HM.out.gr HC3.out) HM'.out).mono ?_
        rintro e w4 ⟨rfl, d, rfl⟩
        go_wp2
        go_ret
        exact ⟨rfl, ((HC1.out.trans HC2.out).trans HC3.out).drewN _⟩
      · have HN := Lib.hid hc
        clear hc
        go_wp2_with fail
        refine (mul_no _ _ n k L M X Y _ HA1.out HB1.out HN.out).mono ?_
        rintro e w2 ⟨rfl, hch2⟩
        have HC2 := Lib.hid hch2
        clear hch2
        go_wp2_with fail
        refine (rmulM_no _ _ n k L M X Y _ (HA1.out.gr HC2.out) (HB1.out.gr HC2.out) HN.out).mono ?_
        rintro e w3 ⟨rfl, hch3⟩
        have HC3 := Lib.hid hch3
        clear hch3
        go_wp2_with fail
        refine (same_any _ _ 0 (fun _ => 0) (fun _ _ => 0) _ (nil_mat _ _ _) (nil_mat _ _ _)).mono ?_
        rintro e w4 ⟨rfl, d, rfl⟩
        go_wp2
        go_ret
        exact ⟨rfl, ((HC1.out.trans HC2.out).trans HC3.out).drewN _⟩
theorem matProducts_of (va vb : Value) (w : World) {n k : Nat} {L M : Nat → Nat} {X Y : Nat → Nat → Nat} (ha : MatV w va n L X) (hb : MatV w vb k M Y) : Calls Try.prog 4 #[va, vb] w (Told w) := matProducts_any va vb n k L M X Y w ha hb
#print axioms matProducts_any
end Go.Proofs.Ytpeidgochfcanaa
