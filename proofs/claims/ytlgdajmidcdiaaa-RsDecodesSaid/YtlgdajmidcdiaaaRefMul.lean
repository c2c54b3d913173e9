/-
  The document's Mul, walked.
-/
import Derived.Test.YtlgdajmidcdiaaaRefs
import Derived.Test.YtlgdajmidcdiaaaReadsB
import Derived.Test.YtlgdajmidcdiaaaMul
namespace Go.Proofs.Ytlgdajmidcdiaaa
open Go.RowKit
set_option linter.unusedVariables false

theorem rmul_quiet (a b : Int) (a0 : 0 ≤ a) (a1 : a < 256) (b0 : 0 ≤ b) (b1 : b < 256) (w : World) (k : Nat) :
    Calls Try.prog 38 #[.int .u8 a, .int .u8 b] (w.drewN k) fun e w' => e = .returned (.int .u8 (Gf.mul a.toNat b.toNat : Int)) ∧ ∃ m, w' = w.drewN m :=
  (rmul_any a b a0 a1 b0 b1 (w.drewN k)).mono fun _ _ ⟨he, hw⟩ => ⟨he, k, hw.symm⟩

set_option maxHeartbeats 3200000 in
set_option maxRecDepth 100000 in
theorem rmulM_new (va vb : Value) (n k : Nat) (L M : Nat → Nat) (X Y : Nat → Nat → Nat) (w : World) (ha : MatV w va n L X) (hb : MatV w vb k M Y) (m1 : mayB n L = true) (m2 : mayB k M = true) (hk : L 0 = k) :
    Calls Try.prog 23 #[va, vb] w (FreshPost n (M 0) (mulZ k X Y) w) := by
  obtain ⟨n1, n2, l1, l2, hL⟩ := mayB_true m1
  obtain ⟨k1, k2, q1, q2, hM⟩ := mayB_true m2
  obtain ⟨ba, oa, Ca, rfl, _, hra⟩ := ha.some (by omega)
  obtain ⟨bb, ob, Cb, rfl, _, hrb⟩ := hb.some (by omega)
  obtain ⟨A0, D0, ca0, _, _⟩ := hra 0 (by omega)
  obtain ⟨B0, E0, cb0, _, _⟩ := hrb 0 (by omega)
  rw [Nat.add_zero, hk] at ca0
  rw [Nat.add_zero] at cb0
  obtain ⟨m, hm⟩ : ∃ m, m = M 0 := ⟨_, rfl⟩
  rw [← hm] at cb0 q1 q2 ⊢
  have HA := Lib.hid hra
  have HB := Lib.hid hrb
  have HL := Lib.hid (show ∀ r, r < n → L r = k from fun r hr => by rw [hL r hr, hk])
  have HM := Lib.hid (show ∀ r, r < k → M r = m from fun r hr => by rw [hM r hr, hm])
  have CB0 := Lib.hid cb0
  have b1 : ((k : Int) != (k : Int)) = false := by simp
  have npos : 0 < n := by omega
  have kpos : 0 < k := by omega
  obtain ⟨i0, hi, hz0, hz1, hz2⟩ := info_parts Try.info33
  obtain ⟨j0, gi, gz0, gz1, gz2⟩ := info_parts Try.info5
  have HHA := Lib.hid ha
  have HHB := Lib.hid hb
  clear hra hrb hL hM ha hb hk hm
  go_enter Try.func23, Try.ntmps23
  go_wp2_with fail
  refine (rmay_any _ n L X _ HHA.out).mono ?_
  rintro e w1 ⟨rfl, d1, rfl⟩
  go_wp2_with fail
  refine (rmay_any _ k M Y _ (HHB.out.drewN _)).mono ?_
  rintro e w2 ⟨rfl, d2, rfl⟩
  go_wp2
  obtain ⟨ws, hws⟩ : ∃ ws, ws = w.drewN (d1 + d2) := ⟨_, rfl⟩
  have hchs : Ch (fun _ => False) w ws := by rw [hws]; exact (Ch.refl _ _).drewN _
  have HWS := Lib.hid hws
  clear hws
  rw [← HWS.out]
  clear ca0 cb0
  go_loopw [8, 9, 10, 11, 12, 13, 14] (fun v i _ _ _ _ _ wr => ∃ r : Nat, r ≤ n ∧ i = .int .i64 r ∧ Ch (fun _ => False) w wr ∧ Bld w.heap.size wr v r (fun _ => m) (mulZ k X Y)) (fun _ i _ _ _ _ _ _ => n - (intOf i).toNat)
  case atStart => exact ⟨0, Nat.zero_le _, rfl, hchs, Bld.nil _ _ _ _⟩
  case round =>
    obtain ⟨r, hr, rfl, hch, hbld⟩ := hrel
    by_cases hlt : r < n
    · obtain ⟨wo, rfl⟩ : ∃ wo : World, wo = wr := ⟨_, rfl⟩
      obtain ⟨xs, ho, hrows⟩ := hbld
      obtain ⟨Ar, Dr, cr, _, hr3⟩ := HA.out r hlt
      rw [HL.out r hlt] at cr hr3
      obtain ⟨br, or', rfl, hXr⟩ := hr3 kpos
      clear hr3
      have HO := Lib.hid ho
      have HR := Lib.hid hrows
      have HCH := Lib.hid hch
      have HXR := Lib.hid hXr
      have CR := Lib.hid cr
      clear ho hrows hch hXr cr
      go_wp2
      go_loopw [10, 11, 12, 13, 14] (fun v i _ _ _ wi => ∃ c : Nat, c ≤ m ∧ i = .int .i64 c ∧ Ch (fun _ => False) wo wi ∧ wi.ownsRow wo.heap.size /-t-/5 1 v c (bytesL c (mulZ k X Y r))) (fun _ i _ _ _ _ => m - (intOf i).toNat)
      case atStart => exact ⟨0, Nat.zero_le _, rfl, Ch.refl _ _, World.ownsRow_nil _ _ _ _⟩
      case round =>
        obtain ⟨c, hc, rfl, hch2, hrow⟩ := hrel
        have cb1 := (HCH.out.trans hch2).cell CB0.out (fun f => f)
        by_cases hlt2 : c < m
        · obtain ⟨wm, rfl⟩ : ∃ wm : World, wm = wr := ⟨_, rfl⟩
          have HRW := Lib.hid hrow
          have HC2 := Lib.hid hch2
          clear hrow hch2
          go_wp2
          clear cb1
          go_loopw [12, 13, 14] (fun s i _ wi => ∃ j : Nat, j ≤ k ∧ i = .int .i64 j ∧ s = .int .u8 (mulZ j X Y r c : Int) ∧ Hid (∃ d, wi = wm.drewN d)) (fun _ i _ _ => k - (intOf i).toNat)
          case atStart => exact ⟨0, Nat.zero_le _, rfl, rfl, ⟨0, rfl⟩⟩
          case round =>
            obtain ⟨j, hj, rfl, rfl, HD⟩ := hrel
            have hdr : Ch (fun _ => False) wm wr := by obtain ⟨d, e⟩ := HD.out; rw [e]; exact (Ch.refl _ _).drewN d
            by_cases hlt3 : j < k
            · have hall := (HCH.out.trans HC2.out).trans hdr
              obtain ⟨Bj, Ej, cj, _, hj3⟩ := HB.out j hlt3
              rw [HM.out j hlt3] at cj hj3
              obtain ⟨bj, oj, rfl, hYj⟩ := hj3 (by omega)
              clear hj3
              have e1 := hall.cell CR.out (fun f => f)
              have e2 := hall.cell (HXR.out j hlt3).1 (fun f => f)
              have e3 := hall.cell cj (fun f => f)
              have e4 := hall.cell (hYj c hlt2).1 (fun f => f)
              have x1 := (HXR.out j hlt3).2
              have x2 := (hYj c hlt2).2
              have x3 := mulZ_lt j X Y r c
              have x4 := Gf.mul_lt (X r j) (Y j c)
              have p1 : (0 : Int) ≤ (r : Int) := Int.natCast_nonneg _
              have p2 : (r : Int) < (n : Int) := by omega
              have p3 : (0 : Int) ≤ (j : Int) := Int.natCast_nonneg _
              have p4 : (j : Int) < (k : Int) := by omega
              have p5 : (0 : Int) ≤ (c : Int) := Int.natCast_nonneg _
              have p6 : (c : Int) < (m : Int) := by omega
              have HD2 := Lib.hid (show ∀ nq, Hid (∃ d, wr.drewN nq = wm.drewN d) from fun nq => by obtain ⟨d, e⟩ := HD.out; exact ⟨d + nq, by rw [e, World.drewN_drewN]⟩)
              clear hall cj hYj hdr
              go_wp2
              go_quiet ((go_at_call 38; exact rmul_quiet _ _ (by omega) (by omega) (by omega) (by omega) _ _))
              go_wp2_with fail
              refine (radd_any _ _ (by omega) (by omega) (by omega) (by omega) _).mono ?_
              rintro e w5 ⟨rfl, rfl⟩
              go_wp2
              go_roundw
              case rel => exact ⟨j + 1, by omega, by go_num, rfl, HD2.out _⟩
              case measure => simp [intOf]; omega
            · have HE := Lib.hid (show j = k by omega)
              rw [HE.out]
              have hrw := ownsRow_ch HRW.out hdr
              have hc3 := HC2.out.trans hdr
              have HA2 := Lib.hid (app_mk (x := .int .u8 (mulZ k X Y r c : Int)) hrw hc3.size rfl (by omega))
              have HRW2 := Lib.hid hrw
              have HC3 := Lib.hid hc3
              have HM2 := Lib.hid (show (c + 1) * 1 ≤ 140737488355328 by omega)
              clear hrw hc3 hdr
              go_wp2_with (at_builtin; refine wpList_append_lies _ rfl _ _ /-t-/33 rfl wo.heap.size /-t-/5 j0 (.int .u8 0) 1 1 Try.underlying33 gi gz0 gz1 gz2 rfl (by decide) _ c (bytesL c (mulZ k X Y r)) rfl HA2.out.o ⟨wr.heap.size, 0, none⟩ 1 1 [.int .u8 (mulZ k X Y r c : Int)] rfl rfl HA2.out.n HA2.out.c (by decide) HA2.out.m HM2.out HA2.out.b (wr.heap.size + 1) HA2.out.s ?_; intro g cap w1 h1 h2 h3 h4)
              have hnext := row_more (z := mulZ k X Y r) HC3.out HRW2.out (Nat.le_refl _) _ _ h1 h2
              clear h1 h2 h3 h4
              go_wp2
              go_roundw
              case rel => exact ⟨c + 1, by omega, by go_num, hnext.2, hnext.1⟩
              case measure => simp [intOf]; omega
        · have HE := Lib.hid (show c = m by omega)
          rw [HE.out] at hrow
          have hX : RowV wr u10 m (mulZ k X Y r) := ownsRow_rowV hrow (by omega) (fun q _ => mulZ_lt _ _ _ _ _)
          obtain ⟨A, C, rfl, _⟩ := id hX
          have hxb := off_new (b2 := 0) HO.out hch2 hrow HCH.out.size
          have ho2 := ownsRow_ch HO.out hch2
          have HAA := Lib.hid (app_mk (x := .slice A m C) ho2 (Nat.le_trans HCH.out.size hch2.size) rfl (by omega))
          have HR2 := Lib.hid (show ∀ q, q < r → ∃ x, xs[q]? = some x ∧ RowV wr x m (mulZ k X Y q) ∧ ∀ b, x.ownBlock = some b → b < wr.heap.size ∧ u8.ownBlock ≠ some b ∧ Far w.heap.size wr b from fun q hq => by
            obtain ⟨x, hx, hv, hoo⟩ := HR.out q hq
            exact ⟨x, hx, hv.ch hch2 (fun _ _ f => f), fun b hb => ⟨Nat.lt_of_lt_of_le (hoo b hb).1 hch2.size, (hoo b hb).2.1, (hoo b hb).2.2.ch hch2 (hoo b hb).1⟩⟩)
          have HX := Lib.hid hX
          have HXB := Lib.hid hxb
          have HO2 := Lib.hid ho2
          have HC2 := Lib.hid (HCH.out.trans hch2)
          have HM2 := Lib.hid (show (r + 1) * 24 ≤ 140737488355328 by omega)
          clear hX hxb ho2 hch2 hrow
          go_wp2_with (at_builtin; refine wpList_append_lies _ rfl _ _ /-t-/22 rfl w.heap.size /-t-/33 i0 (.slice none 0 0) 1 24 Try.underlying22 hi hz0 hz1 hz2 rfl (by decide) u8 r xs rfl HAA.out.o ⟨wr.heap.size, 0, none⟩ 1 1 [.slice A m C] rfl rfl HAA.out.n HAA.out.c (by decide) HAA.out.m HM2.out HAA.out.b (wr.heap.size + 1) HAA.out.s ?_; intro g cap w1 h1 h2 h3 h4)
          have hnb : Bld w.heap.size w1 (.slice (some ⟨g, 0, none⟩) (r + 1) cap) (r + 1) (fun _ => m) (mulZ k X Y) := Bld.more _ HO2.out HR2.out HX.out HXB.out h1 h2 h3
          have hnc : Ch (fun _ => False) w w1 := Bld.moreCh _ _ HC2.out HO2.out (Nat.le_refl _) h2
          clear h1 h2 h3 h4
          go_wp2
          go_roundw
          case rel => exact ⟨r + 1, by omega, by go_num, hnc, hnb⟩
          case measure => simp [intOf]; omega
    · have HE := Lib.hid (show r = n by omega)
      obtain ⟨A, C, rfl, _⟩ := id (hbld.mat (by omega))
      have HM := Lib.hid hbld
      clear hbld
      go_wp2
      go_ret2
      exact ⟨_, rfl, by have := HM.out; rw [HE.out] at this; rw [HE.out]; exact this, hch⟩
theorem rmulM_yes (va vb : Value) (n k : Nat) (L M : Nat → Nat) (X Y : Nat → Nat → Nat) (w : World) (ha : MatV w va n L X) (hb : MatV w vb k M Y) (m1 : mayB n L = true) (m2 : mayB k M = true) (hk : L 0 = k) :
    Calls Try.prog 23 #[va, vb] w (MatPost n (M 0) (mulZ k X Y) w) := (rmulM_new va vb n k L M X Y w ha hb m1 m2 hk).mono fun _ _ h => h.mat (by have := (mayB_true m1).2.1; omega)
#print axioms rmulM_yes
set_option maxHeartbeats 800000 in
theorem rmulM_no (va vb : Value) (n k : Nat) (L M : Nat → Nat) (X Y : Nat → Nat → Nat) (w : World) (ha : MatV w va n L X) (hb : MatV w vb k M Y) (h : ¬ (mayB n L = true ∧ mayB k M = true ∧ L 0 = k)) :
    Calls Try.prog 23 #[va, vb] w (ErrPost 1 w) := by
  have HA := Lib.hid ha
  have HB := Lib.hid hb
  cases m1 : mayB n L with
  | false =>
    obtain ⟨A, Ca, rfl, _, _⟩ := ha
    obtain ⟨A', Cb, rfl, _, _⟩ := hb
    clear h
    go_enter Try.func23, Try.ntmps23
    go_wp2_with fail
    refine (rmay_any _ n L X _ HA.out).mono ?_
    rintro e w1 ⟨rfl, d1, rfl⟩
    go_wp2_with fail
    refine (rmay_any _ k M Y _ (HB.out.drewN _)).mono ?_
    rintro e w2 ⟨rfl, d2, rfl⟩
    go_wp2
    go_ret2
    exact ⟨rfl, (Ch.refl _ _).drewN _⟩
  | true =>
    cases m2 : mayB k M with
    | false =>
      obtain ⟨A, Ca, rfl, _, _⟩ := ha
      obtain ⟨A', Cb, rfl, _, _⟩ := hb
      clear h
      go_enter Try.func23, Try.ntmps23
      go_wp2_with fail
      refine (rmay_any _ n L X _ HA.out).mono ?_
      rintro e w1 ⟨rfl, d1, rfl⟩
      go_wp2_with fail
      refine (rmay_any _ k M Y _ (HB.out.drewN _)).mono ?_
      rintro e w2 ⟨rfl, d2, rfl⟩
      go_wp2
      go_ret2
      exact ⟨rfl, (Ch.refl _ _).drewN _⟩
    | true =>
      have hk : L 0 ≠ k := fun e => h ⟨m1, m2, e⟩
      have hn := (mayB_true m1).1
      obtain ⟨b, o, C, rfl, _, hr⟩ := ha.some (by omega)
      obtain ⟨A0, D0, ca0, _, _⟩ := hr 0 (by omega)
      rw [Nat.add_zero] at ca0
      obtain ⟨A', Cb, rfl, _, _⟩ := hb
      have b1 : ((L 0 : Int) != (k : Int)) = true := by simp; omega
      have npos : 0 < n := by omega
      clear hr hk h ha
      go_enter Try.func23, Try.ntmps23
      go_wp2_with fail
      refine (rmay_any _ n L X _ HA.out).mono ?_
      rintro e w1 ⟨rfl, d1, rfl⟩
      go_wp2_with fail
      refine (rmay_any _ k M Y _ (HB.out.drewN _)).mono ?_
      rintro e w2 ⟨rfl, d2, rfl⟩
      go_wp2
      go_ret2
      exact ⟨rfl, (Ch.refl _ _).drewN _⟩
#print axioms rmulM_no
end Go.Proofs.Ytlgdajmidcdiaaa
