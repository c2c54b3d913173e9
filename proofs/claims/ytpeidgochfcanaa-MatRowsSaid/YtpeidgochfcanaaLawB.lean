/-
  MatOrder and MatOne, walked.
-/
import Derived.Test.YtpeidgochfcanaaLawM
namespace Go.Proofs.Ytpeidgochfcanaa
open Go.RowKit
set_option linter.unusedVariables false

/-! ### numbers that are bytes everywhere -/
def trunc (Z : Nat → Nat → Nat) (r c : Nat) : Nat := Z r c % 256
theorem trunc_b (Z : Nat → Nat → Nat) : AllB (trunc Z) := fun r c => Nat.mod_lt _ (by omega)
theorem MatV.trunc {w : World} {v : Value} {n : Nat} {L : Nat → Nat} {Z : Nat → Nat → Nat} (h : MatV w v n L Z) : MatV w v n L (trunc Z) := h.congr fun r c hr hc => (Nat.mod_eq_of_lt (h.byte hr hc)).symm

/-! ### what an answer of Inv means -/
/-- M makes nothing of nothing but nothing. -/
def Sure (n : Nat) (M : Nat → Nat → Nat) : Prop := ∀ x : Nat → Nat, (∀ j, x j < 256) → (∀ r, r < n → xsum n (fun j => Gf.mul (M r j) (x j)) = 0) → ∀ c, c < n → x c = 0
def Both (n : Nat) (V M : Nat → Nat → Nat) : Prop := AllB V ∧ Eq2 n n (mulZ n V M) oneZ ∧ Eq2 n n (mulZ n M V) oneZ
theorem Reach.both {n : Nat} {X W : Nat → Nat → Nat} (hX : AllB X) (h : Reach n X n W) : Both n (left n W) X := by
  obtain ⟨⟨D, ht⟩, hc⟩ := (Reach.turned hX h)
  exact ⟨left_b ht.b, (ht.done hX hc).1, (ht.done hX hc).2⟩
theorem Reach.not_sure {n c : Nat} {X W : Nat → Nat → Nat} (hX : AllB X) (h : Reach n X c W) (hc : c < n) (h0 : ∀ r, c ≤ r → r < n → W r c = 0) (hs : Sure n X) : False := by
  obtain ⟨⟨D, ht⟩, hcl⟩ := (Reach.turned hX h)
  obtain ⟨x, hb, h1, hz⟩ := ht.stuck hX hcl hc h0
  have := hs x hb hz c hc
  omega
theorem Both.sure {n : Nat} {V M : Nat → Nat → Nat} (hM : AllB M) (h : Both n V M) : Sure n M := by
  intro x hb hz c hc
  have e1 : mulZ n (mulZ n V M) (fun j _ => x j) c 0 = x c := by
    rw [show mulZ n (mulZ n V M) (fun j _ => x j) c 0 = mulZ n oneZ (fun j _ => x j) c 0 from xsum_congr fun j hj => by rw [h.2.1 c j hc hj]]
    exact one_mulZ (fun j _ => hb j) hc 0
  rw [← e1, mulZ_assoc h.1 hM (fun j _ => hb j)]
  exact xsum_none fun j hj => by
    show Gf.mul (V c j) (xsum n fun i => Gf.mul (M j i) (x i)) = 0
    rw [hz j hj, Gf.mul_zero]
theorem Both.flip {n : Nat} {V M : Nat → Nat → Nat} (hM : AllB M) (h : Both n V M) : Both n M V := ⟨hM, h.2.2, h.2.1⟩
/-- An inverse's inverse is what there was. -/
theorem Both.back {n : Nat} {U V M : Nat → Nat → Nat} (hM : AllB M) (h : Both n V M) (k : Both n U V) : Eq2 n n U M := by
  intro r c hr hc
  rw [← mulZ_one k.1 hc r]
  rw [show mulZ n U oneZ r c = mulZ n U (mulZ n V M) r c from xsum_congr fun j hj => by rw [h.2.1 j c hj hc]]
  rw [← mulZ_assoc k.1 h.1 hM]
  rw [show mulZ n (mulZ n U V) M r c = mulZ n oneZ M r c from xsum_congr fun j hj => by rw [k.2.1 r j hr hj]]
  exact one_mulZ hM hr c
/-- Inv, by what its answer means. -/
def InvAns (n : Nat) (X : Nat → Nat → Nat) (w : World) (e : Ending) (w' : World) : Prop :=
  ∃ (A : Option Addr) (len C : Nat) (k : Int), e = .returned (.tuple #[.slice A len C, .int .i64 k]) ∧ Ch (fun _ => False) w w' ∧ ((∃ V, k = 0 ∧ Both n V X ∧ MatV w' (.slice A len C) n (fun _ => n) V) ∨ (k = 5 ∧ ¬ Sure n X ∧ MatV w' (.slice A len C) 0 (fun _ => n) X))
theorem inv_ans (va : Value) (n : Nat) (L : Nat → Nat) (X : Nat → Nat → Nat) (hX : AllB X) (w : World) (ha : MatV w va n L X) (m1 : mayB n L = true) (hk : L 0 = n) : Calls Try.prog 20 #[va] w (InvAns n X w) := by
  refine (inv_yes va n L X w ha m1 hk).mono ?_
  rintro e w' (⟨W, hre, v, rfl, hM, hch⟩ | ⟨c, W, hc, hre, hz, rfl, hch⟩)
  · obtain ⟨A, C, rfl, _⟩ := id hM
    exact ⟨A, n, C, 0, rfl, hch, Or.inl ⟨_, rfl, hre.both hX, hM⟩⟩
  · exact ⟨none, 0, 0, 5, rfl, hch, Or.inr ⟨rfl, fun hs => hre.not_sure hX hc hz hs, nil_mat _ _ _⟩⟩
theorem mul_ans (va vb : Value) (n k : Nat) (L M : Nat → Nat) (X Y : Nat → Nat → Nat) (w : World) (ha : MatV w va n L X) (hb : MatV w vb k M Y) : Calls Try.prog 18 #[va, vb] w (Ans (mayB n L = true ∧ mayB k M = true ∧ L 0 = k) n (M 0) (mulZ k X Y) w) := by
  by_cases h : mayB n L = true ∧ mayB k M = true ∧ L 0 = k
  · exact (mul_yes va vb n k L M X Y w ha hb h.1 h.2.1 h.2.2).mono fun _ _ q => ans_yes h q
  · exact (mul_no va vb n k L M X Y w ha hb h).mono fun _ _ q => ans_no h q

theorem eight : (8 : Int).toNat = 8 := rfl
theorem may_const {n m : Nat} (h1 : 1 ≤ n) (h2 : n ≤ 64) (h3 : 1 ≤ m) (h4 : m ≤ 4096) : mayB n (fun _ => m) = true := mayB_mk ⟨h1, h2, h3, h4, fun _ _ => rfl⟩
set_option maxHeartbeats 3200000 in
set_option maxRecDepth 100000 in
theorem matOrder_any (va vb vc : Value) (n k m : Nat) (L M K : Nat → Nat) (X Y Z : Nat → Nat → Nat) (hX : AllB X) (hY : AllB Y) (hZ : AllB Z) (w : World) (ha : MatV w va n L X) (hb : MatV w vb k M Y) (hc : MatV w vc m K Z) : Calls Try.prog 7 #[va, vb, vc] w (Told w) := by
  obtain ⟨A, Ca, rfl, na, _⟩ := id ha
  obtain ⟨B, Cb, rfl, nb, _⟩ := id hb
  obtain ⟨C, Cc, rfl, nc, _⟩ := id hc
  have HA := Lib.hid ha
  have HB := Lib.hid hb
  have HC := Lib.hid hc
  have BX := Lib.hid hX
  have BY := Lib.hid hY
  have BZ := Lib.hid hZ
  clear ha hb hc hX hY hZ
  go_enter Try.func7, Try.ntmps7
  go_wp2_with fail
  refine (awake_any _).mono ?_
  rintro e w1 ⟨rfl, hch1⟩
  have HA1 := Lib.hid (HA.out.gr hch1)
  have HB1 := Lib.hid (HB.out.gr hch1)
  have HC1' := Lib.hid (HC.out.gr hch1)
  have HC1 := Lib.hid hch1
  clear hch1
  go_wp2_with fail
  refine (few_any _ n L X _ (by omega) (by omega) _ HA1.out).mono ?_
  rintro e w2 ⟨rfl, rfl⟩
  rw [eight]
  go_wp2_with fail
  refine (few_any _ k M Y _ (by omega) (by omega) _ HB1.out).mono ?_
  rintro e w2 ⟨rfl, rfl⟩
  rw [eight]
  go_wp2_with fail
  refine (few_any _ m K Z _ (by omega) (by omega) _ HC1'.out).mono ?_
  rintro e w2 ⟨rfl, rfl⟩
  rw [eight]
  cases f1 : fewB n L 8 with
  | false =>
    go_wp2
    go_ret
    exact ⟨rfl, HC1.out⟩
  | true =>
  cases f2 : fewB k M 8 with
  | false =>
    go_wp2
    go_ret
    exact ⟨rfl, HC1.out⟩
  | true =>
  cases f3 : fewB m K 8 with
  | false =>
    go_wp2
    go_ret
    exact ⟨rfl, HC1.out⟩
  | true =>
  clear f1 f2 f3
  by_cases c1 : mayB n L = true ∧ mayB k M = true ∧ L 0 = k
  · by_cases c2 : mayB k M = true ∧ mayB m K = true ∧ M 0 = m
    · obtain ⟨m1, m2, hk⟩ := c1
      obtain ⟨_, m3, hm⟩ := c2
      obtain ⟨n1, n2, l1, l2, hL⟩ := mayB_true m1
      obtain ⟨k1, k2, q1, q2, hM⟩ := mayB_true m2
      obtain ⟨r1, r2, s1, s2, hK⟩ := mayB_true m3
      have M1 := Lib.hid m1
      have M2 := Lib.hid m2
      have M3 := Lib.hid m3
      have EK := Lib.hid hk
      have EM := Lib.hid hm
      have MN := Lib.hid (may_const n1 n2 q1 q2)
      have MK := Lib.hid (may_const k1 k2 s1 s2)
      have MO := Lib.hid (may_const n1 n2 n1 (by omega : n ≤ 4096))
      have HAL := Lib.hid (show ∀ r, r < n → L r = L 0 from hL)
      clear m1 m2 m3 hk hm hL hM hK
      go_wp2_with fail
      refine (mul_yes _ _ n k L M X Y _ HA1.out HB1.out M1.out M2.out EK.out).mono ?_
      rintro e w2 ⟨v, rfl, hAB, hch2⟩
      obtain ⟨A1, C1, rfl, _⟩ := id hAB
      have HAB := Lib.hid hAB
      have HC2 := Lib.hid hch2
      clear hAB hch2
      go_wp2_with fail
      refine (mul_yes _ _ k m M K Y Z _ (HB1.out.gr HC2.out) (HC1'.out.gr HC2.out) M2.out M3.out EM.out).mono ?_
      rintro e w3 ⟨v, rfl, hBC, hch3⟩
      obtain ⟨A2, C2, rfl, _⟩ := id hBC
      have HBC := Lib.hid hBC
      have HC3 := Lib.hid hch3
      clear hBC hch3
      go_wp2_with fail
      refine (mul_yes _ _ n m (fun _ => M 0) K (mulZ k X Y) Z _ (HAB.out.gr HC3.out) (HC1'.out.gr (HC2.out.trans HC3.out)) MN.out M3.out EM.out).mono ?_
      rintro e w4 ⟨v, rfl, hL4, hch4⟩
      obtain ⟨A3, C3, rfl, _⟩ := id hL4
      have HL4 := Lib.hid hL4
      have HC4 := Lib.hid hch4
      clear hL4 hch4
      go_wp2_with fail
      refine (mul_yes _ _ n k L (fun _ => K 0) X (mulZ m Y Z) _ (HA1.out.gr (HC2.out.trans (HC3.out.trans HC4.out))) (HBC.out.gr HC4.out) M1.out MK.out EK.out).mono ?_
      rintro e w5 ⟨v, rfl, hR5, hch5⟩
      obtain ⟨A4, C4, rfl, _⟩ := id hR5
      have HR5 := Lib.hid hR5
      have HC5 := Lib.hid hch5
      clear hR5 hch5
      go_wp2_with fail
      refine (one_yes _ (by omega) (by omega) _).mono ?_
      rintro e w6 ⟨v, rfl, hO6, hch6⟩
      rw [Int.toNat_natCast] at hO6
      obtain ⟨A5, C5, rfl, _⟩ := id hO6
      have HO6 := Lib.hid hO6
      have HC6 := Lib.hid hch6
      clear hO6 hch6
      have HA6 := Lib.hid (HA1.out.gr (HC2.out.trans (HC3.out.trans (HC4.out.trans (HC5.out.trans HC6.out)))))
      go_wp2_with fail
      refine (mul_yes _ _ n n (fun _ => n) L oneZ X _ HO6.out HA6.out MO.out M1.out rfl).mono ?_
      rintro e w7 ⟨v, rfl, hS7, hch7⟩
      obtain ⟨A6, C6, rfl, _⟩ := id hS7
      have HS7 := Lib.hid hS7
      have HC7 := Lib.hid hch7
      clear hS7 hch7
      have HLL := Lib.hid (show MatV w7 (.slice A3 n C3) n (fun _ => K 0) (mulZ k X (mulZ m Y Z)) from (HL4.out.gr (HC5.out.trans (HC6.out.trans HC7.out))).congr fun r c _ _ => mulZ_assoc BX.out BY.out BZ.out r c)
      go_wp2_with fail
      refine (same_any _ _ n (fun _ => K 0) _ _ HLL.out (HR5.out.gr (HC6.out.trans HC7.out))).mono ?_
      rintro e w8 ⟨rfl, d8, rfl⟩
      have HA7 := Lib.hid (HA6.out.gr HC7.out)
      have HSS := Lib.hid (show MatV w7 (.slice A6 n C6) n (fun _ => L 0) X from HS7.out.congr fun r c hr _ => one_mulZ BX.out hr c)
      go_wp2_with fail
      refine (same_any _ _ n (fun _ => L 0) X _ (HSS.out.drewN _) ((HA7.out.lens HAL.out).drewN _)).mono ?_
      rintro e w9 ⟨rfl, d9, rfl⟩
      have HCA := Lib.hid (HC1.out.trans (HC2.out.trans (HC3.out.trans (HC4.out.trans (HC5.out.trans (HC6.out.trans HC7.out))))))
      clear HL4 HR5 HO6 HS7 HLL HSS HC2 HC3 HC4 HC5 HC6 HC7 HAB HBC HA6
      by_cases hsq : L 0 = n
      · have ESQ := Lib.hid hsq
        clear hsq
        go_wp2_with fail
        refine (inv_ans _ n L X BX.out _ (HA7.out.drewN _) M1.out ESQ.out).mono ?_
        rintro e w10 ⟨A7, l7, C7, j, rfl, hch10, (⟨V, rfl, hboth, hV⟩ | ⟨rfl, _, _⟩)⟩
        · obtain ⟨_, _, e7, _⟩ := id hV
          have hl7 : l7 = n := by injection e7
          have HV := Lib.hid hV
          have HBO := Lib.hid hboth
          have HC10 := Lib.hid hch10
          clear hV hboth hch10 e7
          subst hl7
          go_wp2_with fail
          refine (inv_ans _ l7 (fun _ => l7) V HBO.out.1 _ HV.out MO.out rfl).mono ?_
          rintro e w11 ⟨A8, l8, C8, j2, rfl, hch11, (⟨U, rfl, hbU, hU⟩ | ⟨rfl, hns, _⟩)⟩
          · have hUU : MatV w11 (.slice A8 l8 C8) l7 (fun _ => L 0) X := (hU.lens (fun _ _ => by rw [ESQ.out])).congr fun r c hr hcc => HBO.out.back BX.out hbU r c hr (by have := ESQ.out; omega)
            have HU := Lib.hid hUU
            have HC11 := Lib.hid hch11
            have HAF := Lib.hid ((((HA7.out.drewN (d8 + d9)).gr HC10.out).gr hch11).lens HAL.out)
            clear hU hUU hch11 hbU
            go_wp2_with fail
            refine (same_any _ _ l7 (fun _ => L 0) X _ HU.out HAF.out).mono ?_
            rintro e w12 ⟨rfl, d12, rfl⟩
            go_wp2
            go_ret
            exact ⟨rfl, (((HCA.out.drewN _).trans HC10.out).trans HC11.out).drewN _⟩
          · exact (hns ((HBO.out.flip BX.out).sure HBO.out.1)).elim
        · go_wp2
          go_ret
          exact ⟨rfl, (HCA.out.drewN _).trans hch10⟩
      · have NSQ := Lib.hid hsq
        clear hsq
        go_wp2_with fail
        refine (inv_no _ n L X _ (HA7.out.drewN _) (fun q => NSQ.out q.2)).mono ?_
        rintro e w10 ⟨rfl, hch10⟩
        go_wp2
        go_ret
        exact ⟨rfl, (HCA.out.drewN _).trans hch10⟩
    · have N2 := Lib.hid c2
      obtain ⟨m1, m2, hk⟩ := c1
      have M1 := Lib.hid m1
      have M2 := Lib.hid m2
      have EK := Lib.hid hk
      clear m1 m2 hk c2
      go_wp2_with fail
      refine (mul_yes _ _ n k L M X Y _ HA1.out HB1.out M1.out M2.out EK.out).mono ?_
      rintro e w2 ⟨v, rfl, hAB, hch2⟩
      obtain ⟨A1, C1, rfl, _⟩ := id hAB
      have HC2 := Lib.hid hch2
      clear hAB hch2
      go_wp2_with fail
      refine (mul_no _ _ k m M K Y Z _ (HB1.out.gr HC2.out) (HC1'.out.gr HC2.out) N2.out).mono ?_
      rintro e w3 ⟨rfl, hch3⟩
      go_wp2
      go_ret
      exact ⟨rfl, (HC1.out.trans HC2.out).trans hch3⟩
  · have N1 := Lib.hid c1
    clear c1
    go_wp2_with fail
    refine (mul_no _ _ n k L M X Y _ HA1.out HB1.out N1.out).mono ?_
    rintro e w2 ⟨rfl, hch2⟩
    have HC2 := Lib.hid hch2
    clear hch2
    go_wp2_with fail
    refine (mul_ans _ _ k m M K Y Z _ (HB1.out.gr HC2.out) (HC1'.out.gr HC2.out)).mono ?_
    rintro e w3 ⟨A2, l2, C2, k2, rfl, hch3, _⟩
    go_wp2
    go_ret
    exact ⟨rfl, (HC1.out.trans HC2.out).trans hch3⟩
theorem matOrder_of (va vb vc : Value) (w : World) {n k m : Nat} {L M K : Nat → Nat} {X Y Z : Nat → Nat → Nat} (ha : MatV w va n L X) (hb : MatV w vb k M Y) (hc : MatV w vc m K Z) : Calls Try.prog 7 #[va, vb, vc] w (Told w) :=
  matOrder_any va vb vc n k m L M K _ _ _ (trunc_b X) (trunc_b Y) (trunc_b Z) w ha.trunc hb.trunc hc.trunc
#print axioms matOrder_any
end Go.Proofs.Ytpeidgochfcanaa
