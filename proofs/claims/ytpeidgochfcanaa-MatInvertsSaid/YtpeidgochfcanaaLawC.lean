/-
  MatInverts, walked.
-/
import Derived.Test.YtpeidgochfcanaaMinor
import Derived.Maps.AppendAt
namespace Go.Proofs.Ytpeidgochfcanaa
open Go.RowKit
set_option linter.unusedVariables false

/-! ### a row's copy, by append to nothing -/
theorem append_nil_nil (w : World) (ty : TypeId) (i : TypeInfo) (hi : Try.prog.info? /-t-/5 = some i) (c : Nat) : (Builtin.append_ #[ /-t-/24, /-t-/24] ty #[.slice none 0 0, .slice none 0 c]).run Try.prog w = .ok (.slice none 0 0) w := by
  simp [Builtin.append_, run_underlying Try.underlying24, sizeOf, typeInfo, hi, Builtin.lenOf, Builtin.firstCells]
theorem app_copy {w : World} {x : Value} {l : Nat} {z : Nat → Nat} (h : RowV w x l z) (hl : l ≤ 65536) : ∃ v' w', (Builtin.append_ #[ /-t-/24, /-t-/24] /-t-/24 #[.slice none 0 0, x]).run Try.prog w = .ok v' w' ∧ w'.ownsRow w.heap.size /-t-/5 1 v' l (bytesL l z) ∧ Ch (fun _ => False) w w' := by
  obtain ⟨A, C, rfl, hb, hc⟩ := h
  obtain ⟨j0, gi, gz0, gz1, gz2⟩ := info_parts Try.info5
  cases A with
  | none =>
    have h0 : l = 0 := by
      by_cases q : 0 < l
      · obtain ⟨b, o, e, _⟩ := hc q; cases e
      · omega
    subst h0
    exact ⟨_, _, append_nil_nil w _ j0 gi C, World.ownsRow_nil _ _ _ _, Ch.refl _ _⟩
  | some ad =>
    have hcells : ∀ j u, (bytesL l z)[j]? = some u → w.cell? (ad.add j) = some u := fun j u hu => by
      by_cases q : j < l
      · obtain ⟨b, o, e, h2⟩ := hc (by omega)
        injection e with e
        subst e
        rw [add_pl, (h2 j q).1]
        unfold bytesL at hu
        simp [q] at hu
        rw [hu]
      · unfold bytesL at hu
        rw [List.getElem?_eq_none (by simp; omega)] at hu
        cases hu
    obtain ⟨v', w', hr, h2, h3, _, h5⟩ := run_append_own_at (P := Try.prog) w w.heap.size /-t-/24 /-t-/24 /-t-/5 j0 (.int .u8 0) 1 1 Try.underlying24 gi gz0 gz1 gz2 rfl (by decide) (.slice none 0 0) 0 [] (World.ownsRow_nil _ _ _ _) ad l C (bytesL l z) (by unfold bytesL; simp) hcells
      (fun u hu => by unfold bytesL at hu; obtain ⟨c, _, rfl⟩ := List.mem_map.1 hu; rfl) (by unfold maxLen; omega) (by omega) (Nat.le_refl _)
    rw [Nat.zero_add, List.nil_append] at h2
    exact ⟨v', w', hr, h2, (Ch.refl _ w).grown h3 (fun i hi => by cases hi)⟩

theorem wpList_copy_of {ops : Array Oper} {rest : List Oper} {o : Oper} {a : Act} {Q : Exit → Act → World → Prop} (w : World) (hgd : o.guard = none) (s x : Operand)
    (ho : o.op = .call { callee := .builtin .append, args := #[s, x], argTypes := #[ /-t-/24, /-t-/24] }) (hty : o.type = /-t-/24) (sv xv v' : Value) (w' : World) (hs : a.eval s = sv) (hx : a.eval x = xv)
    (hrun : (Builtin.append_ #[ /-t-/24, /-t-/24] /-t-/24 #[sv, xv]).run Try.prog w = .ok v' w') (h : wpList Try.prog ops Q rest (a.put o.dst v') w') : wpList Try.prog ops Q (o :: rest) a w := by
  refine wpList_plain hgd fun _ hK => ?_
  unfold Oper.wp execOp
  simp only [ho, hty, resolve, invoke, builtin, Sem.run_bind, Sem.run_pure, Result.andThen_ok, List.map_toArray, List.map_cons, List.map_nil, hs, hx, hrun]
  exact hK _ _ h
/-! ### what Det tells -/
theorem Reach.det {n : Nat} {X : Nat → Nat → Nat} (hX : AllB X) : ∀ {c : Nat} {W : Nat → Nat → Nat}, Reach n X c W → ∃ s, 0 < s ∧ s < 256 ∧ detZ n W = Gf.mul (detZ n X) s
  | 0, W, h => by
    have e : W = besZ n X := h
    subst e
    exact ⟨1, by omega, by omega, by rw [Gf.mul_one (det_lt _ _)]; exact det_congr fun r k _ hk => by unfold besZ; rw [if_pos hk]⟩
  | c + 1, W, h => by
    obtain ⟨p, V, hV, hc, hcp, hp, h0, rfl⟩ := h
    obtain ⟨s, s0, s1, e⟩ := Reach.det hX hV
    obtain ⟨⟨D, ht⟩, _⟩ := Reach.turned hX hV
    have q0 := quo_pos (ht.b _ _) h0
    exact ⟨_, Gf.mul_pos s0 q0, Gf.mul_lt _ _, by rw [det_step ht.b hc hp, e, Gf.mul_assoc (det_lt _ _) s1 (Gf.quo_lt _ _)]⟩
theorem Reach.det_some {n : Nat} {X W : Nat → Nat → Nat} (hX : AllB X) (h : Reach n X n W) : detZ n X ≠ 0 := fun e => by
  obtain ⟨s, s0, s1, hs⟩ := Reach.det hX h
  have hc := ((Reach.turned hX h)).2
  rw [e, Gf.zero_mul, det_congr (N := oneZ) fun r k hr hk => hc r k hr hk, det_one] at hs
  omega
theorem Reach.det_none {n c : Nat} {X W : Nat → Nat → Nat} (hX : AllB X) (h : Reach n X c W) (hc : c < n) (h0 : ∀ r, c ≤ r → r < n → W r c = 0) : detZ n X = 0 := by
  obtain ⟨s, s0, s1, hs⟩ := Reach.det hX h
  rw [det_stuck c n W ((Reach.turned hX h)).2 hc h0] at hs
  by_cases q : detZ n X = 0
  · exact q
  · have := Gf.mul_pos (show 0 < detZ n X by omega) s0
    omega
/-- Inv, by what Det tells. -/
def InvDet (n : Nat) (X : Nat → Nat → Nat) (w : World) (e : Ending) (w' : World) : Prop :=
  ∃ (A : Option Addr) (len C : Nat) (k : Int), e = .returned (.tuple #[.slice A len C, .int .i64 k]) ∧ Ch (fun _ => False) w w' ∧ ((∃ V, k = 0 ∧ detZ n X ≠ 0 ∧ Both n V X ∧ MatV w' (.slice A len C) n (fun _ => n) V) ∨ (k = 5 ∧ detZ n X = 0 ∧ len = 0))
theorem inv_det (va : Value) (n : Nat) (L : Nat → Nat) (X : Nat → Nat → Nat) (hX : AllB X) (w : World) (ha : MatV w va n L X) (m1 : mayB n L = true) (hk : L 0 = n) : Calls Try.prog 20 #[va] w (InvDet n X w) := by
  refine (inv_yes va n L X w ha m1 hk).mono ?_
  rintro e w' (⟨W, hre, v, rfl, hM, hch⟩ | ⟨c, W, hc, hre, hz, rfl, hch⟩)
  · obtain ⟨A, C, rfl, _⟩ := id hM
    exact ⟨A, n, C, 0, rfl, hch, Or.inl ⟨_, rfl, hre.det_some hX, hre.both hX, hM⟩⟩
  · exact ⟨none, 0, 0, 5, rfl, hch, Or.inr ⟨rfl, hre.det_none hX hc hz, rfl⟩⟩
theorem six : (6 : Int).toNat = 6 := rfl
set_option maxHeartbeats 3200000 in
set_option maxRecDepth 100000 in
theorem matInverts_some (b o C n : Nat) (L : Nat → Nat) (X : Nat → Nat → Nat) (hX : AllB X) (w : World) (h0 : 0 < n) (ha : MatV w (.slice (some ⟨b, o, none⟩) n C) n L X) : Calls Try.prog 5 #[.slice (some ⟨b, o, none⟩) n C] w (Told w) := by
  have HA := Lib.hid ha
  have BX := Lib.hid hX
  obtain ⟨A', C', e', hAC, hA3⟩ := id ha
  injection e' with e1 e2 e3
  obtain ⟨b', o', e4, hrows⟩ := hA3 h0
  rw [← e1] at e4
  injection e4 with e5
  injection e5 with e6 e7
  subst e6
  subst e7
  have HR := Lib.hid hrows
  obtain ⟨i0, hi, hz0, hz1, hz2⟩ := info_parts Try.info24
  have hnb := hAC.1
  clear e1 e2 e3 hA3 hrows ha hX hAC
  go_enter Try.func5, Try.ntmps5
  go_wp2_with fail
  refine (awake_any _).mono ?_
  rintro e w1 ⟨rfl, hch1⟩
  have HA1 := Lib.hid (HA.out.gr hch1)
  have HC1 := Lib.hid hch1
  clear hch1
  go_wp2_with fail
  refine (few_any _ n L X _ (by omega) (by omega) _ HA1.out).mono ?_
  rintro e w2 ⟨rfl, rfl⟩
  rw [six]
  cases f1 : fewB n L 6 with
  | false =>
    go_wp2
    go_ret
    exact ⟨rfl, HC1.out⟩
  | true =>
  obtain ⟨hn6, hl6⟩ := fewB_true f1
  have HL6 := Lib.hid hl6
  clear f1 hl6
  go_wp2
  go_loopw [5, 6] (fun v t wr => ∃ k : Nat, k ≤ n ∧ t = .int .i64 k ∧ Ch (fun _ => False) w1 wr ∧ Bld w1.heap.size wr v k L X) (fun _ t _ => n - (intOf t).toNat)
  case atStart => exact ⟨0, Nat.zero_le _, rfl, Ch.refl _ _, Bld.nil _ _ _ _⟩
  case round =>
    obtain ⟨k, hk, rfl, hch, hbld⟩ := hrel
    by_cases hlt : k < n
    · obtain ⟨x, cx, hx⟩ := HR.out k hlt
      have hall := HC1.out.trans hch
      have c1 := hall.cell cx (fun f => f)
      have hxw := hx.ch hall (fun _ _ f => f)
      obtain ⟨Ax, Cx, rfl, hcx, _⟩ := id hxw
      obtain ⟨v1, w2, hrun, hown, hc2⟩ := app_copy hxw (by have := HL6.out k hlt; omega)
      have hX : RowV w2 v1 (L k) (X k) := ownsRow_rowV hown hcx.1 (fun c _ => BX.out k c)
      obtain ⟨A1, C1, rfl, _⟩ := id hX
      obtain ⟨xs, ho, hro⟩ := hbld
      have ho2 := ownsRow_ch ho hc2
      have hxb := off_new (b2 := 0) ho hc2 hown
      have HAP := Lib.hid (app_mk (x := .slice A1 (L k) C1) ho2 (Nat.le_trans hch.size hc2.size) rfl (by omega))
      have HR2 := Lib.hid (show ∀ q, q < k → ∃ x, xs[q]? = some x ∧ RowV w2 x (L q) (X q) ∧ ∀ b, x.ownBlock = some b → b < w2.heap.size ∧ u5.ownBlock ≠ some b from fun q hq => by
        obtain ⟨x, hx, hv, hoo⟩ := hro q hq
        exact ⟨x, hx, hv.ch hc2 (fun _ _ f => f), fun b hb => ⟨Nat.lt_of_lt_of_le (hoo b hb).1 hc2.size, (hoo b hb).2⟩⟩)
      have HX := Lib.hid hX
      have HXB := Lib.hid hxb
      have HO2 := Lib.hid ho2
      have HC2 := Lib.hid (hch.trans hc2)
      have HM2 := Lib.hid (show (k + 1) * 24 ≤ 140737488355328 by omega)
      clear hX hxb ho2 hch hown hxw hx cx hall ho hro hc2
      have HRUN := Lib.hid hrun
      clear hrun
      go_wp2_with (first | (at_builtin; refine wpList_copy_of _ rfl (.const (.slice none 0 0)) (.tmp 39) rfl rfl (.slice none 0 0) (.slice Ax (L k) Cx) (.slice A1 (L k) C1) w2 rfl rfl HRUN.out ?_) | (at_builtin; refine wpList_append_lies _ rfl (.tmp 35) (.tmp 41) /-t-/22 rfl w1.heap.size /-t-/24 i0 (.slice none 0 0) 1 24 Try.underlying22 hi hz0 hz1 hz2 rfl (by decide) u5 k xs rfl HAP.out.o ⟨w2.heap.size, 0, none⟩ 1 1 [.slice A1 (L k) C1] rfl rfl HAP.out.n HAP.out.c (by decide) HAP.out.m HM2.out HAP.out.b (w2.heap.size + 1) HAP.out.s ?_; intro g cap w3 h1 h2 h3 h4))
      have hnb : Bld w1.heap.size w3 (.slice (some ⟨g, 0, none⟩) (k + 1) cap) (k + 1) L X := Bld.more _ HO2.out HR2.out HX.out HXB.out h1 h2 h3
      have hnc : Ch (fun _ => False) w1 w3 := Bld.moreCh _ _ HC2.out HO2.out (Nat.le_refl _) h2
      clear h1 h2 h3 h4
      go_wp2
      go_roundw
      case rel => exact ⟨k + 1, by omega, by go_num, hnc, hnb⟩
      case measure => simp [intOf]; omega
    · have HE := Lib.hid (show k = n by omega)
      have hW := hbld.mat (show k ≤ 140737488351232 by omega)
      rw [HE.out] at hW
      obtain ⟨Aw, Cw, rfl, hw1⟩ := id hW
      clear hw1
      have HW := Lib.hid hW
      have HAr := Lib.hid (HA1.out.gr hch)
      have HCr := Lib.hid (HC1.out.trans hch)
      obtain ⟨x0, cx0, A0, C0, rfl, hc0⟩ := HR.out 0 h0
      rw [Nat.add_zero] at cx0
      have CX0 := Lib.hid cx0
      clear hbld hch hW HR cx0 hc0 HL6
      by_cases hsq : mayB n L = true ∧ L 0 = n
      · obtain ⟨m1, hk0⟩ := hsq
        obtain ⟨n1, n2, l1, l2, hL⟩ := mayB_true m1
        have M1 := Lib.hid m1
        have EK := Lib.hid hk0
        have HAn := Lib.hid (HAr.out.lens (M := fun _ => n) (fun r hr => by rw [hL r hr, hk0]))
        have MN := Lib.hid (may_const n1 n2 n1 (by omega : n ≤ 4096))
        have b1 : ((L 0 : Int) != (n : Int)) = false := by simp [hk0]
        clear hL hk0 m1
        go_wp2_with fail
        refine (inv_det _ n L X BX.out _ HAr.out M1.out EK.out).mono ?_
        rintro e w3 ⟨A3, l3, C3, k3, rfl, hch3, hres⟩
        have HC3 := Lib.hid hch3
        have HRES := Lib.hid hres
        clear hch3 hres
        go_wp2_with fail
        refine (same_any _ _ n L X _ (HAr.out.gr HC3.out) (HW.out.gr HC3.out)).mono ?_
        rintro e w4 ⟨rfl, d4, rfl⟩
        go_wp2_with fail
        refine (rmay_any _ n L X _ ((HAr.out.gr HC3.out).drewN _)).mono ?_
        rintro e w5 ⟨rfl, d5, rfl⟩
        rw [M1.out]
        have c0 := (HCr.out.trans HC3.out).cell CX0.out (fun f => f)
        go_wp2_with fail
        refine (det_any n n2 _ X _ ((HAn.out.gr HC3.out).drewN _)).mono ?_
        rintro e w6 ⟨rfl, hch6⟩
        have HC6 := Lib.hid (((Ch.refl _ w3).drewN _).trans hch6)
        clear hch6 c0
        rcases HRES.out with ⟨V, rfl, hd, hboth, hV⟩ | ⟨rfl, hd, hl⟩
        · have b2 : ((detZ n X : Int) == 0) = false := by rw [beq_eq_false_iff_ne]; omega
          obtain ⟨A', C', e', hw1, hw2⟩ := id hV
          obtain rfl : l3 = n := by injection e'
          have HV := Lib.hid (hV.gr HC6.out)
          have HBO := Lib.hid hboth
          have HA6 := Lib.hid ((HAr.out.gr HC3.out).gr HC6.out)
          clear hV hboth hd e' hw1 hw2 HRES
          go_wp2_with fail
          refine (rmulM_yes _ _ l3 l3 L (fun _ => l3) X V _ HA6.out HV.out M1.out MN.out EK.out).mono ?_
          rintro e w7 ⟨v7, rfl, hM7, hch7⟩
          obtain ⟨A7, C7, rfl, hw1⟩ := id hM7
          have HM7 := Lib.hid (hM7.congr (Y := oneZ) fun r c hr hc => HBO.out.2.2 r c hr hc)
          have HC7 := Lib.hid hch7
          clear hM7 hch7 hw1
          go_wp2_with fail
          refine (rmulM_yes _ _ l3 l3 (fun _ => l3) L V X _ (HV.out.gr HC7.out) (HA6.out.gr HC7.out) MN.out M1.out rfl).mono ?_
          rintro e w8 ⟨v8, rfl, hM8, hch8⟩
          rw [EK.out] at hM8
          obtain ⟨A8, C8, rfl, hw1⟩ := id hM8
          have HM8 := Lib.hid (hM8.congr (Y := oneZ) fun r c hr hc => HBO.out.2.1 r c hr hc)
          have HC8 := Lib.hid hch8
          clear hM8 hch8 hw1
          go_wp2_with fail
          refine (rone_yes _ (by omega) (by omega) _).mono ?_
          rintro e w9 ⟨v9, rfl, hM9, hch9⟩
          rw [Int.toNat_natCast] at hM9
          obtain ⟨A9, C9, rfl, hw1⟩ := id hM9
          have HM9 := Lib.hid hM9
          have HC9 := Lib.hid hch9
          clear hM9 hch9 hw1
          go_wp2_with fail
          refine (same_any _ _ l3 (fun _ => l3) oneZ _ (HM7.out.gr (HC8.out.trans HC9.out)) HM9.out).mono ?_
          rintro e w10 ⟨rfl, d10, rfl⟩
          go_wp2_with fail
          refine (same_any _ _ l3 (fun _ => l3) oneZ _ ((HM8.out.gr HC9.out).drewN _) (HM9.out.drewN _)).mono ?_
          rintro e w11 ⟨rfl, d11, rfl⟩
          go_wp2
          go_ret
          exact ⟨rfl, ((((((HCr.out.trans HC3.out).trans HC6.out).trans HC7.out).trans HC8.out).trans HC9.out).drewN _)⟩
        · have b2 : ((detZ n X : Int) == 0) = true := by simp [hd]
          subst hl
          clear hd HRES
          go_wp2
          go_ret
          exact ⟨rfl, (HCr.out.trans HC3.out).trans HC6.out⟩
      · have NS := Lib.hid hsq
        clear hsq
        go_wp2_with fail
        refine (inv_no _ n L X _ HAr.out NS.out).mono ?_
        rintro e w3 ⟨rfl, hch3⟩
        have HC3 := Lib.hid hch3
        clear hch3
        go_wp2_with fail
        refine (same_any _ _ n L X _ (HAr.out.gr HC3.out) (HW.out.gr HC3.out)).mono ?_
        rintro e w4 ⟨rfl, d4, rfl⟩
        go_wp2_with fail
        refine (rmay_any _ n L X _ ((HAr.out.gr HC3.out).drewN _)).mono ?_
        rintro e w5 ⟨rfl, d5, rfl⟩
        cases m1 : mayB n L with
        | false =>
          go_wp2
          go_ret
          exact ⟨rfl, (HCr.out.trans HC3.out).drewN _⟩
        | true =>
          have b1 : ((L 0 : Int) != (n : Int)) = true := by
            have := NS.out
            simp
            intro q
            exact this ⟨m1, by omega⟩
          have c0 := (HCr.out.trans HC3.out).cell CX0.out (fun f => f)
          go_wp2
          go_ret
          exact ⟨rfl, (HCr.out.trans HC3.out).drewN _⟩
set_option maxHeartbeats 1600000 in
set_option maxRecDepth 100000 in
theorem matInverts_none (A : Option Addr) (C : Nat) (L : Nat → Nat) (X : Nat → Nat → Nat) (w : World) (ha : MatV w (.slice A 0 C) 0 L X) : Calls Try.prog 5 #[.slice A 0 C] w (Told w) := by
  have HA := Lib.hid ha
  clear ha
  have hm : mayB 0 L = false := mayB_no (fun q => by omega)
  go_enter Try.func5, Try.ntmps5
  go_wp2_with fail
  refine (awake_any _).mono ?_
  rintro e w1 ⟨rfl, hch1⟩
  have HA1 := Lib.hid (HA.out.gr hch1)
  have HC1 := Lib.hid hch1
  clear hch1
  go_wp2_with fail
  refine (few_any _ 0 L X _ (by omega) (by omega) _ HA1.out).mono ?_
  rintro e w2 ⟨rfl, rfl⟩
  rw [six]
  cases f1 : fewB 0 L 6 with
  | false =>
    go_wp2
    go_ret
    exact ⟨rfl, HC1.out⟩
  | true =>
  clear f1
  go_wp2
  refine wp_loop_rounds 1 ?_
  rw [rounds_succ]
  go_wp2_with fail
  refine (inv_no _ 0 L X _ HA1.out (fun q => by rw [hm] at q; cases q.1)).mono ?_
  rintro e w3 ⟨rfl, hch3⟩
  have HC3 := Lib.hid hch3
  clear hch3
  go_wp2_with fail
  refine (same_any _ _ 0 L X _ (HA1.out.gr HC3.out) (nil_mat _ _ _)).mono ?_
  rintro e w4 ⟨rfl, d4, rfl⟩
  go_wp2_with fail
  refine (rmay_any _ 0 L X _ ((HA1.out.gr HC3.out).drewN _)).mono ?_
  rintro e w5 ⟨rfl, d5, rfl⟩
  rw [hm]
  go_wp2
  go_ret
  exact ⟨rfl, (HC1.out.trans HC3.out).drewN _⟩
theorem matInverts_of (va : Value) (w : World) {n : Nat} {L : Nat → Nat} {X : Nat → Nat → Nat} (ha : MatV w va n L X) : Calls Try.prog 5 #[va] w (Told w) := by
  by_cases h0 : 0 < n
  · obtain ⟨b, o, C, rfl, _, _⟩ := ha.some h0
    exact matInverts_some b o C n L _ (trunc_b X) w h0 ha.trunc
  · obtain rfl : n = 0 := by omega
    obtain ⟨A, C, rfl⟩ := ha.none
    exact matInverts_none A C L X w ha
#print axioms matInverts_of
#print axioms app_copy
end Go.Proofs.Ytpeidgochfcanaa
