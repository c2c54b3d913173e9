/-
  RsDecodes, walked.
-/
import Derived.Test.YtlgdajmidcdiaaaRsE
namespace Go.Proofs.Ytlgdajmidcdiaaa
open Go.RowKit
set_option linter.unusedVariables false

set_option maxHeartbeats 3200000 in
set_option maxRecDepth 100000 in
theorem rsDecodes_short (va : Value) (n : Nat) (L : Nat → Nat) (X : Nat → Nat → Nat) (hX : AllB X) (k : Int) (w : World) (ha : MatV w va n L X) (hs : ¬ (1 ≤ k ∧ k ≤ 64 ∧ k ≤ n)) : Calls Try.prog 4 #[va, .int .i64 k] w (Told w) := by
  obtain ⟨A, Ca, rfl, na, _⟩ := id ha
  have HA := Lib.hid ha
  have HX := Lib.hid hX
  clear ha hX
  go_enter Try.func4, Try.ntmps4
  go_wp2_with fail
  refine (awake_any _).mono ?_
  rintro e w1 ⟨rfl, hch1⟩
  have HA1 := Lib.hid (HA.out.gr hch1)
  have HC1 := Lib.hid hch1
  clear hch1
  go_wp2_with fail
  refine (light_any _ n L X _ HA1.out).mono ?_
  rintro e w2 ⟨rfl, rfl⟩
  cases f1 : lightB n L with
  | false =>
    go_wp2
    go_ret
    exact ⟨rfl, HC1.out⟩
  | true =>
    have n20 := (lightB_true f1).1
    clear f1
    by_cases hk : 1 ≤ k ∧ k ≤ 64
    case neg =>
      have HK := Lib.hid hk
      clear hk
      go_wp2_with fail
      refine (decode_argA _ _ _ _ _ HK.out).mono ?_
      rintro e w2 ⟨rfl, hch2⟩
      have HC2 := Lib.hid hch2
      clear hch2
      go_wp2_with fail
      refine (rdecode_argA _ _ _ _ _ HK.out).mono ?_
      rintro e w3 ⟨rfl, hch3⟩
      have HC3 := Lib.hid hch3
      clear hch3
      go_wp2_with fail
      refine (same_any _ _ 0 (fun _ => 0) (fun _ _ => 0) _ (nil_mat _ _ _) (nil_mat _ _ _)).mono ?_
      rintro e w4 ⟨rfl, d4, rfl⟩
      go_wp2
      go_ret
      exact ⟨rfl, ((HC1.out.trans HC2.out).trans HC3.out).drewN _⟩
    obtain ⟨k1, k64⟩ := hk
    by_cases hkn : k ≤ n
    case neg =>
      have HK := Lib.hid (show ¬ (k ≤ n ∧ n ≤ 64) from fun q => hkn q.1)
      clear hkn
      go_wp2_with fail
      refine (decode_argB _ _ _ _ _ na.1 k1 k64 HK.out).mono ?_
      rintro e w2 ⟨rfl, hch2⟩
      have HC2 := Lib.hid hch2
      clear hch2
      go_wp2_with fail
      refine (rdecode_argB _ _ _ _ _ na.1 k1 k64 HK.out).mono ?_
      rintro e w3 ⟨rfl, hch3⟩
      have HC3 := Lib.hid hch3
      clear hch3
      go_wp2_with fail
      refine (same_any _ _ 0 (fun _ => 0) (fun _ _ => 0) _ (nil_mat _ _ _) (nil_mat _ _ _)).mono ?_
      rintro e w4 ⟨rfl, d4, rfl⟩
      go_wp2
      go_ret
      exact ⟨rfl, ((HC1.out.trans HC2.out).trans HC3.out).drewN _⟩
    exact absurd ⟨k1, k64, hkn⟩ hs
set_option maxHeartbeats 3200000 in
set_option maxRecDepth 100000 in
theorem rsDecodes_main (b o C n k : Nat) (L : Nat → Nat) (X : Nat → Nat → Nat) (hX : AllB X) (w : World) (k1' : 1 ≤ k) (k2' : k ≤ n) (ha : MatV w (.slice (some ⟨b, o, none⟩) n C) n L X) : Calls Try.prog 4 #[.slice (some ⟨b, o, none⟩) n C, .int .i64 (k : Int)] w (Told w) := by
  have HA := Lib.hid ha
  have HX := Lib.hid hX
  clear ha hX
  go_enter Try.func4, Try.ntmps4
  go_wp2_with fail
  refine (awake_any _).mono ?_
  rintro e w1 ⟨rfl, hch1⟩
  have HA1 := Lib.hid (HA.out.gr hch1)
  have HC1 := Lib.hid hch1
  clear hch1
  go_wp2_with fail
  refine (light_any _ n L X _ HA1.out).mono ?_
  rintro e w2 ⟨rfl, rfl⟩
  cases f1 : lightB n L with
  | false =>
    go_wp2
    go_ret
    exact ⟨rfl, HC1.out⟩
  | true =>
    have n20 := (lightB_true f1).1
    clear f1
    by_cases hgood : Fits L n ∧ k ≤ (idx L n).length
    · obtain ⟨hf, hq⟩ := hgood
      have HF := Lib.hid hf
      have HQ := Lib.hid hq
      clear hf hq
      go_wp2_with fail
      refine (decode_yes _ _ _ n k L X HX.out _ k1' k2' (by omega) HA1.out HF.out HQ.out).mono ?_
      rintro e w2 ⟨D, hD, v2, rfl, hB2, hch2⟩
      have hM2 := hB2.mat (by omega)
      obtain ⟨A2, C2, rfl, _⟩ := id hM2
      have HD := Lib.hid hD
      have HM2 := Lib.hid hM2
      have HC2 := Lib.hid hch2
      clear hD hM2 hB2 hch2
      go_wp2_with fail
      refine (rdecode_any _ _ _ n k L X D HX.out _ k1' k2' (by omega) (HA1.out.gr HC2.out) (fun _ _ => HD.out)).mono ?_
      rintro e w3 (⟨hn, _⟩ | ⟨_, hn, _⟩ | ⟨_, _, v3, rfl, hM3, hch3⟩)
      · exact absurd HF.out hn
      · exact absurd HQ.out (by omega)
      obtain ⟨A3, C3, rfl, _⟩ := id hM3
      have HM3 := Lib.hid hM3
      have HC3 := Lib.hid hch3
      clear hM3 hch3
      go_wp2_with fail
      refine (same_any _ _ n (fun _ => longZ L n) (sharesZ k D) _ (HM2.out.gr HC3.out) HM3.out).mono ?_
      rintro e w4 ⟨rfl, d4, rfl⟩
      go_wp2
      go_ret
      exact ⟨rfl, ((HC1.out.trans HC2.out).trans HC3.out).drewN _⟩
    · have HB := Lib.hid hgood
      clear hgood
      go_wp2_with fail
      refine (decode_lost _ _ _ n k L X _ k1' k2' (by omega) HA1.out HB.out).mono ?_
      rintro e w2 (⟨hf, rfl, hch2⟩ | ⟨hf, hq, rfl, hch2⟩)
      · have HF := Lib.hid hf
        have HC2 := Lib.hid hch2
        clear hf hch2
        go_wp2_with fail
        refine (rdecode_any _ _ _ n k L X X HX.out _ k1' k2' (by omega) (HA1.out.gr HC2.out) (fun a b => absurd ⟨a, b⟩ HB.out)).mono ?_
        rintro e w3 (⟨_, rfl, hch3⟩ | ⟨hn, _⟩ | ⟨hn, _⟩)
        · have HC3 := Lib.hid hch3
          clear hch3
          go_wp2_with fail
          refine (same_any _ _ 0 (fun _ => 0) (fun _ _ => 0) _ (nil_mat _ _ _) (nil_mat _ _ _)).mono ?_
          rintro e w4 ⟨rfl, d4, rfl⟩
          go_wp2
          go_ret
          exact ⟨rfl, ((HC1.out.trans HC2.out).trans HC3.out).drewN _⟩
        · exact absurd hn HF.out
        · exact absurd hn HF.out
      · have HF := Lib.hid hf
        have HQ := Lib.hid hq
        have HC2 := Lib.hid hch2
        clear hf hch2 hq
        go_wp2_with fail
        refine (rdecode_any _ _ _ n k L X X HX.out _ k1' k2' (by omega) (HA1.out.gr HC2.out) (fun a b => absurd ⟨a, b⟩ HB.out)).mono ?_
        rintro e w3 (⟨hn, _⟩ | ⟨_, _, rfl, hch3⟩ | ⟨h1, h2, _⟩)
        · exact absurd HF.out hn
        · have HC3 := Lib.hid hch3
          clear hch3
          go_wp2_with fail
          refine (same_any _ _ 0 (fun _ => 0) (fun _ _ => 0) _ (nil_mat _ _ _) (nil_mat _ _ _)).mono ?_
          rintro e w4 ⟨rfl, d4, rfl⟩
          go_wp2
          go_ret
          exact ⟨rfl, ((HC1.out.trans HC2.out).trans HC3.out).drewN _⟩
        · exact absurd ⟨h1, h2⟩ HB.out
theorem rsDecodes_of (va : Value) (k : Int) (w : World) {n : Nat} {L : Nat → Nat} {X : Nat → Nat → Nat} (ha : MatV w va n L X) (hk : -9223372036854775808 ≤ k ∧ k ≤ 9223372036854775807) : Calls Try.prog 4 #[va, .int .i64 k] w (Told w) := by
  by_cases h : 1 ≤ k ∧ k ≤ 64 ∧ k ≤ n
  · obtain ⟨h1, h2, h3⟩ := h
    obtain ⟨k, rfl⟩ := Int.eq_ofNat_of_zero_le (show 0 ≤ k by omega)
    obtain ⟨b, o, C, rfl, _, _⟩ := ha.some (by omega)
    exact rsDecodes_main b o C n k L _ (trunc_b X) w (by omega) (by omega) ha.trunc
  · exact rsDecodes_short va n L _ (trunc_b X) k w ha.trunc h
#print axioms rsDecodes_of
end Go.Proofs.Ytlgdajmidcdiaaa
