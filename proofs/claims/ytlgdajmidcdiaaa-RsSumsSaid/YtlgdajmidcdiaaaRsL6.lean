/-
  RsSums, walked.
-/
import Derived.Test.YtlgdajmidcdiaaaRsL6s
namespace Go.Proofs.Ytlgdajmidcdiaaa
open Go.RowKit
set_option linter.unusedVariables false

def sumZ (X Y : Nat → Nat → Nat) (r c : Nat) : Nat := xr (X r c) (Y r c)
theorem sumZ_b {X Y : Nat → Nat → Nat} (hX : AllB X) (hY : AllB Y) : AllB (sumZ X Y) := fun r c => xr_lt8 (hX _ _) (hY _ _)
/-- A row that is filled from the front. -/
def halfRow (c : Nat) (z : Nat → Nat) (j : Nat) : Value := if j < c then .int .u8 (z j : Int) else .int .u8 0
theorem half_next {w : World} {g l c : Nat} {z : Nat → Nat} (h : w.rowIs g /-t-/5 l (halfRow c z)) : (w.drew.setCell ⟨g, c, none⟩ (.int .u8 (z c : Int))).rowIs g /-t-/5 l (halfRow (c + 1) z) := by
  refine (World.rowIs.set (w := w.drew) h c (.int .u8 (z c : Int))).congr fun j _ => ?_
  unfold halfRow
  by_cases e : j = c
  · subst e; rw [if_pos rfl, if_pos (by omega)]
  · rw [if_neg e]
    by_cases q : j < c
    · rw [if_pos q, if_pos (by omega)]
    · rw [if_neg q, if_neg (by omega)]
/-- The rows of a matrix of one length, as the walk asks for them. -/
theorem mat_bytes {w : World} {b o n C l : Nat} {L : Nat → Nat} {Z : Nat → Nat → Nat} (h : MatV w (.slice (some ⟨b, o, none⟩) n C) n L Z) (hL : ∀ r, r < n → L r = l) (l0 : 0 < l) : ∀ r, r < n → ∃ bx ox D, w.cell? ⟨b, o + r, none⟩ = some (.slice (some ⟨bx, ox, none⟩) l D) ∧ ∀ c, c < l → w.cell? ⟨bx, ox + c, none⟩ = some (.int .u8 (Z r c : Int)) ∧ Z r c < 256 := fun r hr => by
  obtain ⟨A, C', e, _, h3⟩ := h
  injection e with e1 e2 e3
  subst e1
  obtain ⟨b', o', e4, h4⟩ := h3 (by omega)
  injection e4 with e5
  injection e5 with e6 e7
  subst e6
  subst e7
  obtain ⟨x, cx, hv⟩ := h4 r hr
  rw [hL r hr] at hv
  obtain ⟨Ax, D, rfl, hD, hc⟩ := hv
  obtain ⟨bx, ox, rfl, hcx⟩ := hc l0
  exact ⟨bx, ox, D, cx, hcx⟩
set_option maxHeartbeats 6400000 in
set_option maxRecDepth 100000 in
theorem rsSums_main (ba oa Ca bb ob Cb n m l : Nat) (L M : Nat → Nat) (X Y : Nat → Nat → Nat) (hX : AllB X) (hY : AllB Y) (w : World) (ha : MatV w (.slice (some ⟨ba, oa, none⟩) n Ca) n L X) (hb : MatV w (.slice (some ⟨bb, ob, none⟩) n Cb) n M Y) (f1 : lightB n L = true) (f2 : lightB n M = true) (f3 : mayB n L = true) (f4 : mayB n M = true) (hl : L 0 = l) (hl' : M 0 = l) (n12 : n ≤ 12) (m8 : m ≤ 8) :
    Calls Try.prog 9 #[.slice (some ⟨ba, oa, none⟩) n Ca, .slice (some ⟨bb, ob, none⟩) n Cb, .int .i64 (m : Int)] w (Told w) := by
  obtain ⟨n1, _, l1, l2, hL⟩ := mayB_true f3
  obtain ⟨_, _, _, _, hM⟩ := mayB_true f4
  have hl40 := (lightB_true f1).2 0 (by omega)
  rw [hl] at l1 l2 hl40
  have HRA := Lib.hid (mat_bytes ha (fun r hr => by rw [hL r hr, hl]) l1)
  have HRB := Lib.hid (mat_bytes hb (fun r hr => by rw [hM r hr, hl']) l1)
  obtain ⟨A0, D0, c0⟩ := mat_first ha (by omega)
  obtain ⟨B0, E0, c1⟩ := mat_first hb (by omega)
  rw [hl] at c0
  rw [hl'] at c1
  have HA := Lib.hid ha
  have HB := Lib.hid hb
  have HX := Lib.hid hX
  have HY := Lib.hid hY
  have F1 := Lib.hid f1
  have F2 := Lib.hid f2
  have F3 := Lib.hid f3
  have F4 := Lib.hid f4
  have HL := Lib.hid hl
  have HL' := Lib.hid hl'
  have CC0 := Lib.hid c0
  have CC1 := Lib.hid c1
  have t5 : ((n : Int) != (n : Int)) = false := by simp
  have t6 : ((l : Int) != (l : Int)) = false := by simp
  have t7 : decide ((12 : Int) < (n : Int)) = false := by simp; omega
  have t8 : decide ((m : Int) < 0) = false := by simp
  have t9 : decide ((8 : Int) < (m : Int)) = false := by simp; omega
  have i0 : (0 : Int) < (n : Int) := by omega
  have j0 : 0 < n := by omega
  obtain ⟨i1, hi, hz0, hz1, hz2⟩ := info_parts Try.info33
  have hmk2 := run_make_row' (P := Try.prog) /-t-/33 /-t-/5 (.int .u8 0) 1 Try.underlying33 Try.info5 rfl .i64 .i64 l (by omega) (by omega)
  have MC := Lib.hid (may_const n1 (by omega : n ≤ 64) l1 l2)
  clear ha hb hX hY f1 f2 f3 f4 hl hl' hL hM c0 c1
  go_enter Try.func9, Try.ntmps9
  go_wp2_with fail
  refine (awake_any _).mono ?_
  rintro e w1 ⟨rfl, hch1⟩
  have HA1 := Lib.hid (HA.out.gr hch1)
  have HB1 := Lib.hid (HB.out.gr hch1)
  have HC1 := Lib.hid hch1
  clear hch1
  go_wp2_with fail
  refine (light_any _ n L X _ HA1.out).mono ?_
  rintro e w2 ⟨rfl, rfl⟩
  rw [F1.out]
  go_wp2_with fail
  refine (light_any _ n M Y _ HB1.out).mono ?_
  rintro e w2 ⟨rfl, rfl⟩
  rw [F2.out]
  go_wp2_with fail
  refine (rmay_any _ n L X _ HA1.out).mono ?_
  rintro e w3 ⟨rfl, d3, rfl⟩
  rw [F3.out]
  go_wp2_with fail
  refine (rmay_any _ n M Y _ (HB1.out.drewN _)).mono ?_
  rintro e w4 ⟨rfl, d4, rfl⟩
  rw [F4.out, World.drewN_drewN]
  obtain ⟨w2, hw2⟩ : ∃ w2, w2 = w1.drewN (d3 + d4) := ⟨_, rfl⟩
  rw [← hw2]
  have HC2 := Lib.hid (show Ch (fun _ => False) w w2 by rw [hw2]; exact HC1.out.drewN _)
  have c0 := HC2.out.cell CC0.out (fun f => f)
  have c1 := HC2.out.cell CC1.out (fun f => f)
  clear hw2
  go_wp2
  go_quiet (fail)
  go_wp2
  obtain ⟨w3, hw3⟩ : ∃ w3, w3 = w2.drewN nq := ⟨_, rfl⟩
  rw [← hw3]
  have HC3 := Lib.hid (show Ch (fun _ => False) w w3 by rw [hw3]; exact HC2.out.drewN _)
  clear hw3 c0 c1 t5 t7 t8 t9 F1 F2
  go_loopw [11, 12, 13, 14] (fun v t _ _ wr => ∃ k : Nat, k ≤ n ∧ t = .int .i64 k ∧ Hid (Ch (fun _ => False) w3 wr ∧ BldL w3.heap.size 0 wr v k (fun _ => l) (sumZ X Y))) (fun _ t _ _ _ => n - (intOf t).toNat)
  case atStart => exact ⟨0, Nat.zero_le _, rfl, Lib.hid ⟨Ch.refl _ _, BldL.nil _ _ _ _ _⟩⟩
  case round =>
    obtain ⟨k, hk, rfl, HP⟩ := hrel
    obtain ⟨wo, rfl⟩ : ∃ wo : World, wo = wr := ⟨_, rfl⟩
    by_cases hlt : k < n
    · obtain ⟨bx, ox, D, cx, hxb⟩ := HRA.out k hlt
      obtain ⟨by', oy, E, cy, hyb⟩ := HRB.out k hlt
      have cx1 := (HC3.out.trans HP.out.1).cell cx (fun f => f)
      have HCX := Lib.hid cx
      have HCY := Lib.hid cy
      have HXB := Lib.hid hxb
      have HYB := Lib.hid hyb
      clear cx cy hxb hyb
      go_wp2
      obtain ⟨W, hW⟩ : ∃ W, W = wo.alloc (.cells (madeCells #[Value.int .u8 0] l) /-t-/5) := ⟨_, rfl⟩
      have hWr : W.rowIs wo.heap.size /-t-/5 l (halfRow 0 (sumZ X Y k)) := by
        rw [hW]; exact (World.rowIs_made wo (.int .u8 0) l /-t-/5).congr fun j _ => by unfold halfRow; rw [if_neg (Nat.not_lt_zero _)]
      have hWc : Ch (fun _ => False) wo W := by rw [hW]; exact (Ch.refl _ _).alloc _ _
      rw [← hW]
      have H0 := Lib.hid (show W.rowIs wo.heap.size /-t-/5 l (halfRow 0 (sumZ X Y k)) ∧ Ch (fun _ => False) wo W from ⟨hWr, hWc⟩)
      clear hW hWr hWc cx1
      go_loopw [14] (fun t wi => ∃ c : Nat, c ≤ l ∧ t = .int .i64 c ∧ Hid (wi.rowIs wo.heap.size /-t-/5 l (halfRow c (sumZ X Y k)) ∧ Ch (fun _ => False) wo wi)) (fun t _ => l - (intOf t).toNat)
      case atStart => exact ⟨0, Nat.zero_le _, rfl, H0⟩
      case round =>
        obtain ⟨c, hc, rfl, HQ⟩ := hrel
        by_cases hlt2 : c < l
        · have hall := (HC3.out.trans HP.out.1).trans HQ.out.2
          have e1 := hall.cell HCX.out (fun f => f)
          have e2 := hall.cell HCY.out (fun f => f)
          have e3 := hall.cell (HXB.out c hlt2).1 (fun f => f)
          have e4 := hall.cell (HYB.out c hlt2).1 (fun f => f)
          have e5 := HQ.out.1.cell hlt2
          have e6 := HQ.out.1.frozen c
          have bx8 := (HXB.out c hlt2).2
          have by8 := (HYB.out c hlt2).2
          clear hall
          go_wp2
          go_still_tail 18, (by kernel_rfl)
          still_call (radd_still _ _ bx8 by8 _)
          repeat still_step
          refine wpStill_nil ?_
          change wpList _ _ _ _ _ wr.drew
          go_wp2
          have HN := Lib.hid (show (wr.drew.setCell ⟨wo.heap.size, c, none⟩ (.int .u8 (xr (X k c) (Y k c) : Int))).rowIs wo.heap.size /-t-/5 l (halfRow (c + 1) (sumZ X Y k)) ∧ Ch (fun _ => False) wo (wr.drew.setCell ⟨wo.heap.size, c, none⟩ (.int .u8 (xr (X k c) (Y k c) : Int))) from ⟨half_next HQ.out.1, HQ.out.2.drew.setCell (p := ⟨wo.heap.size, c, none⟩) (Or.inr (Nat.le_refl _)) _⟩)
          clear e1 e2 e3 e4 e5 e6
          go_roundw
          case rel => exact ⟨c + 1, by omega, by go_num, HN⟩
          case measure => simp [intOf]; omega
        · have HE := Lib.hid (show c = l by omega)
          obtain ⟨hch0, xs, ho, hro⟩ := HP.out
          obtain ⟨hrow, hchi⟩ := HQ.out
          rw [HE.out] at hrow
          have ho2 := ownsRow_ch ho hchi
          have HX1 := Lib.hid (show RowV wr (.slice (some ⟨wo.heap.size, 0, none⟩) l l) l (sumZ X Y k) from ⟨_, _, rfl, by omega, fun _ => ⟨_, 0, rfl, fun j hj => ⟨by
            have := hrow.cell hj
            unfold halfRow at this
            rw [if_pos hj] at this
            rw [Nat.zero_add]; exact this, sumZ_b HX.out HY.out _ _⟩⟩⟩)
          have HXB1 := Lib.hid (show ∀ q, (Value.slice (some ⟨wo.heap.size, 0, none⟩) l l).ownBlock = some q → q < wr.heap.size ∧ u11.ownBlock ≠ some q ∧ 0 ≤ q from fun q hq => by
            have e : wo.heap.size = q := by simpa [Value.ownBlock] using hq
            refine ⟨by have := hrow.lt; omega, fun e2 => ?_, Nat.zero_le _⟩
            have h1 := (World.ownsRow.lt ho q e2).2
            omega)
          have HAP := Lib.hid (app_mk (x := .slice (some ⟨wo.heap.size, 0, none⟩) l l) ho2 (Nat.le_trans hch0.size hchi.size) rfl (by omega))
          have HO2 := Lib.hid ho2
          have HRO := Lib.hid (show ∀ r, r < k → ∃ x, xs[r]? = some x ∧ RowV wr x l (sumZ X Y r) ∧ ∀ b, x.ownBlock = some b → b < wr.heap.size ∧ u11.ownBlock ≠ some b ∧ 0 ≤ b from fun r hr => by
            obtain ⟨x, hx, hv, hoo⟩ := hro r hr
            exact ⟨x, hx, hv.ch hchi (fun _ _ f => f), fun b hb => ⟨Nat.lt_of_lt_of_le (hoo b hb).1 hchi.size, (hoo b hb).2.1, Nat.zero_le _⟩⟩)
          have HCH := Lib.hid (hch0.trans hchi)
          have HM2 := Lib.hid (show (k + 1) * 24 ≤ 140737488355328 by omega)
          clear hch0 ho hro hrow hchi ho2
          go_wp2_with (at_builtin; refine wpList_append_lies _ rfl (.tmp 116) (.tmp 118) /-t-/22 rfl w3.heap.size /-t-/33 i1 (.slice none 0 0) 1 24 Try.underlying22 hi hz0 hz1 hz2 rfl (by decide) u11 k xs rfl HAP.out.o ⟨wr.heap.size, 0, none⟩ 1 1 [.slice (some ⟨wo.heap.size, 0, none⟩) l l] rfl rfl HAP.out.n HAP.out.c (by decide) HAP.out.m HM2.out HAP.out.b (wr.heap.size + 1) HAP.out.s ?_; intro g' cap w5 h1 h2 h3 h4)
          have HN := Lib.hid (show Ch (fun _ => False) w3 w5 ∧ BldL w3.heap.size 0 w5 (.slice (some ⟨g', 0, none⟩) (k + 1) cap) (k + 1) (fun _ => l) (sumZ X Y) from ⟨Bld.moreCh _ _ HCH.out HO2.out (Nat.le_refl _) h2, Bld.more _ HO2.out HRO.out HX1.out HXB1.out h1 h2 h3⟩)
          clear h1 h2 h3 h4
          go_wp2
          go_roundw
          case rel => exact ⟨k + 1, by omega, by go_num, HN⟩
          case measure => simp [intOf]; omega
    · have HE := Lib.hid (show k = n by omega)
      obtain ⟨hch0, hbld⟩ := HP.out
      rw [HE.out] at hbld
      have hMc := hbld.mat (by omega)
      obtain ⟨Ac, Cc, rfl, _⟩ := id hMc
      have HMc := Lib.hid hMc
      have HC4 := Lib.hid (HC3.out.trans hch0)
      clear hbld hMc hch0 HP
      clear hmk2
      go_wp2_with fail
      refine (encode_new _ n m L X _ (HA.out.gr HC4.out) F3.out (by omega)).mono ?_
      rintro e w5 ⟨vx, rfl, hB5, hch5⟩
      rw [HL.out] at hB5
      obtain ⟨A5, C5, rfl, _, hx3⟩ := hB5.mat (by omega)
      have HX5 := Lib.hid hx3
      have HC5 := Lib.hid hch5
      clear hB5 hx3 hch5
      go_wp2_with fail
      refine (encode_new _ n m M Y _ (HB.out.gr (HC4.out.trans HC5.out)) F4.out (by omega)).mono ?_
      rintro e w6 ⟨vy, rfl, hB6, hch6⟩
      rw [HL'.out] at hB6
      obtain ⟨A6, C6, rfl, _, hy3⟩ := hB6.mat (by omega)
      have HY6 := Lib.hid hy3
      have HC6 := Lib.hid hch6
      clear hB6 hy3 hch6
      go_wp2_with fail
      refine (encode_new _ n m (fun _ => l) (sumZ X Y) _ (HMc.out.gr (HC5.out.trans HC6.out)) MC.out (by omega)).mono ?_
      rintro e w7 ⟨vz, rfl, hB7, hch7⟩
      have hM7 := (hB7.mat (by omega)).congr (Y := sumZ (mulZ n (cauZ n) X) (mulZ n (cauZ n) Y)) fun r c _ _ => mulZ_sum (cauZ_b n) HX.out HY.out r c
      obtain ⟨A7, C7, rfl, _, hz3⟩ := hM7
      have HZ7 := Lib.hid hz3
      have HC67 := Lib.hid (HC6.out.trans hch7)
      have HC7 := Lib.hid hch7
      have HCW := Lib.hid (((HC4.out.trans HC5.out).trans HC6.out).trans hch7)
      have t10 : ((m : Int) != (m : Int)) = false := by simp
      clear hB7 hz3 hch7
      go_wp2
      clear t10 t6
      go_loopw [21, 22] (fun t _ wr => ∃ i : Nat, i ≤ m ∧ t = .int .i64 i ∧ Hid (Ch (fun _ => False) w7 wr)) (fun t _ _ => m - (intOf t).toNat)
      case atStart => exact ⟨0, Nat.zero_le _, rfl, Lib.hid (Ch.refl _ _)⟩
      case round =>
        obtain ⟨i, him, rfl, HI⟩ := hrel
        by_cases hlt3 : i < m
        · obtain ⟨gx, px, rfl, hcx⟩ := HX5.out (by omega)
          obtain ⟨gy, py, rfl, hcy⟩ := HY6.out (by omega)
          obtain ⟨gz, pz, rfl, hcz⟩ := HZ7.out (by omega)
          obtain ⟨x, cx, Ax, Dx, rfl, _, hxb⟩ := hcx i hlt3
          obtain ⟨y, cy, Ay, Dy, rfl, _, hyb⟩ := hcy i hlt3
          obtain ⟨z, cz, Az, Dz, rfl, _, hzb⟩ := hcz i hlt3
          obtain ⟨bx, ox, rfl, hxb2⟩ := hxb (by omega)
          obtain ⟨by', oy, rfl, hyb2⟩ := hyb (by omega)
          obtain ⟨bz, oz, rfl, hzb2⟩ := hzb (by omega)
          have KX := Lib.hid cx
          have KY := Lib.hid cy
          have KZ := Lib.hid cz
          have BX := Lib.hid hxb2
          have BY := Lib.hid hyb2
          have BZ := Lib.hid hzb2
          clear hcx hcy hcz cx cy cz hxb hyb hzb hxb2 hyb2 hzb2
          go_wp2
          go_loopw [22] (fun t wi => ∃ c : Nat, c ≤ l ∧ t = .int .i64 c ∧ Hid (Ch (fun _ => False) w7 wi)) (fun t _ => l - (intOf t).toNat)
          case atStart => exact ⟨0, Nat.zero_le _, rfl, HI⟩
          case round =>
            obtain ⟨c, hc, rfl, HJ⟩ := hrel
            have ez := HJ.out.cell KZ.out (fun f => f)
            by_cases hlt4 : c < l
            · have ex := (HC67.out.trans HJ.out).cell KX.out (fun f => f)
              have ey := (HC7.out.trans HJ.out).cell KY.out (fun f => f)
              have dx := (HC67.out.trans HJ.out).cell (BX.out c hlt4).1 (fun f => f)
              have dy := (HC7.out.trans HJ.out).cell (BY.out c hlt4).1 (fun f => f)
              have dz := HJ.out.cell (BZ.out c hlt4).1 (fun f => f)
              have bx8 := (BX.out c hlt4).2
              have by8 := (BY.out c hlt4).2
              have t11 : decide (l ≤ c) = false := decide_eq_false (by omega)
              have him' : (i : Int) < (m : Int) := by omega
              unfold sumZ at dz
              go_wp2
              go_quiet ((go_at_call 20; exact radd_quiet _ _ bx8 by8 _ _))
              go_wp2
              go_roundw
              case rel => exact ⟨c + 1, by omega, by go_num, Lib.hid (HJ.out.drewN _)⟩
              case measure => simp [intOf]; omega
            · have t11 : decide (c < l) = false := decide_eq_false (by omega)
              go_wp2
              go_roundw
              case rel => exact ⟨i + 1, by omega, by go_num, HJ⟩
              case measure => simp [intOf]; omega
        · go_wp2
          go_ret
          exact ⟨rfl, HCW.out.trans HI.out⟩
theorem rsSums_of (va vb : Value) (m : Int) (w : World) {n k : Nat} {L M : Nat → Nat} {X Y : Nat → Nat → Nat} (ha : MatV w va n L X) (hb : MatV w vb k M Y) (hm : -9223372036854775808 ≤ m ∧ m ≤ 9223372036854775807) : Calls Try.prog 9 #[va, vb, .int .i64 m] w (Told w) := by
  by_cases h : sumC n k L M m
  · obtain ⟨h1, h2, h3, h4, h5, h6, h7, h8, h9⟩ := h
    subst h5
    obtain ⟨m, rfl⟩ := Int.eq_ofNat_of_zero_le h8
    obtain ⟨ba, oa, Ca, rfl, _, _⟩ := ha.some (mayB_true h3).1
    obtain ⟨bb, ob, Cb, rfl, _, _⟩ := hb.some (mayB_true h4).1
    exact rsSums_main ba oa Ca bb ob Cb n m (L 0) L M _ _ (trunc_b X) (trunc_b Y) w ha.trunc hb.trunc h1 h2 h3 h4 rfl h6.symm h7 (by omega)
  · exact rsSums_short va vb n k L M X Y m w ha hb h
#print axioms rsSums_of
end Go.Proofs.Ytlgdajmidcdiaaa
