/-
  RsParts, walked.
-/
import Derived.Test.YtlgdajmidcdiaaaRsL0
import Derived.Laws.BytesArg
namespace Go.Proofs.Ytlgdajmidcdiaaa
open Go.RowKit
set_option linter.unusedVariables false

set_option maxHeartbeats 1600000 in
set_option maxRecDepth 100000 in
theorem rsParts_short (va : Value) (n : Nat) (L : Nat → Nat) (X : Nat → Nat → Nat) (m p : Int) (w : World) (ha : MatV w va n L X) (h : ¬ (lightB n L = true ∧ mayB n L = true ∧ 0 ≤ m ∧ m ≤ 10 ∧ 1 ≤ p ∧ p < L 0)) : Calls Try.prog 6 #[va, .int .i64 m, .int .i64 p] w (Told w) := by
  obtain ⟨A, Ca, rfl, na, hrow⟩ := id ha
  have HA := Lib.hid ha
  have HH := Lib.hid h
  have HR := Lib.hid hrow
  clear ha h hrow
  go_enter Try.func6, Try.ntmps6
  go_wp2_with fail
  refine (awake_any _).mono ?_
  rintro e w1 ⟨rfl, hch1⟩
  have HA1 := Lib.hid (HA.out.gr hch1)
  have HC1 := Lib.hid hch1
  clear hch1
  go_wp2_with fail
  refine (light_any _ n L X _ HA1.out).mono ?_
  rintro e w2 ⟨rfl, rfl⟩
  go_wp2_with fail
  refine (rmay_any _ n L X _ HA1.out).mono ?_
  rintro e w3 ⟨rfl, d3, rfl⟩
  cases f1 : lightB n L with
  | false =>
    go_wp2
    go_ret
    exact ⟨rfl, HC1.out.drewN _⟩
  | true =>
  cases f2 : mayB n L with
  | false =>
    go_wp2
    go_ret
    exact ⟨rfl, HC1.out.drewN _⟩
  | true =>
  by_cases h3 : 0 ≤ m
  case neg =>
    have t3 : decide (m < 0) = true := by simp; omega
    go_wp2
    go_ret
    exact ⟨rfl, HC1.out.drewN _⟩
  have t3 : decide (m < 0) = false := by simp; omega
  by_cases h4 : m ≤ 10
  case neg =>
    have t4 : decide (10 < m) = true := by simp; omega
    go_wp2
    go_ret
    exact ⟨rfl, HC1.out.drewN _⟩
  have t4 : decide (10 < m) = false := by simp; omega
  by_cases h5 : 1 ≤ p
  case neg =>
    have t5 : decide (p < 1) = true := by simp; omega
    go_wp2
    go_ret
    exact ⟨rfl, HC1.out.drewN _⟩
  have t5 : decide (p < 1) = false := by simp; omega
  have n1 := (mayB_true f2).1
  obtain ⟨b, o, rfl, hc⟩ := HR.out (by omega)
  obtain ⟨x, cx, A0, D0, rfl, hx⟩ := hc 0 (by omega)
  rw [Nat.add_zero] at cx
  have c0 := HC1.out.cell cx (fun f => f)
  have t6 : decide ((L 0 : Int) ≤ p) = true := by
    have := HH.out
    simp
    by_cases q : p < L 0
    · exact absurd ⟨f1, f2, h3, h4, h5, q⟩ this
    · omega
  have n0 : 0 < n := by omega
  clear hc hx cx f2
  go_wp2
  go_ret
  exact ⟨rfl, HC1.out.drewN _⟩
theorem row_front {w : World} {b o l C p : Nat} {z : Nat → Nat} (h : RowV w (.slice (some ⟨b, o, none⟩) l C) l z) (hp : p ≤ l) : RowV w (.slice (some ⟨b, o, none⟩) p C) p z := by
  obtain ⟨A, C', e, hn, h3⟩ := h
  injection e with e1 e2 e3
  subst e1
  subst e3
  refine ⟨_, _, rfl, by omega, fun h0 => ?_⟩
  obtain ⟨b', o', e4, h4⟩ := h3 (by omega)
  injection e4 with e5
  injection e5 with e6 e7
  subst e6
  subst e7
  exact ⟨_, _, rfl, fun r hr => h4 r (by omega)⟩
/-- string(x) of a row. -/
def textOf (l : Nat) (z : Nat → Nat) : ByteArray := strOfNums ((List.range l).map fun c => (z c : Int))
theorem row_text {w : World} {b o l C : Nat} {z : Nat → Nat} (h : RowV w (.slice (some ⟨b, o, none⟩) l C) l z) (h0 : 0 < l) (q : Nat) : (convert /-t-/33 /-t-/9 (.slice (some ⟨b, o, none⟩) l C)).run Try.prog (w.drewN q) = .ok (.string (textOf l z)) (w.drewN q) := by
  obtain ⟨A, C', e, hn, h3⟩ := h
  injection e with e1 e2 e3
  subst e1
  obtain ⟨b', o', e4, h4⟩ := h3 h0
  injection e4 with e5
  injection e5 with e6 e7
  subst e6
  subst e7
  exact run_convert_bytes_arg (w.drewN q) /-t-/33 /-t-/5 Try.underlying33 Try.underlying5 b o l C _ (by simp) (fun i hi => by
    have := (h4 i hi).1
    rw [show ((List.range l).map fun c => (z c : Int)).getD i 0 = (z i : Int) by simp [List.getD, hi]]
    exact this) /-t-/9 Try.underlying9
set_option maxHeartbeats 3200000 in
set_option maxRecDepth 100000 in
theorem rsParts_main (b o C n m p : Nat) (L : Nat → Nat) (X : Nat → Nat → Nat) (w : World) (ha : MatV w (.slice (some ⟨b, o, none⟩) n C) n L X) (f1 : lightB n L = true) (f2 : mayB n L = true) (hm : m ≤ 10) (p1 : 1 ≤ p) (p2 : p < L 0) :
    Calls Try.prog 6 #[.slice (some ⟨b, o, none⟩) n C, .int .i64 (m : Int), .int .i64 (p : Int)] w (Told w) := by
  obtain ⟨n1, _, l1, l2, hL⟩ := mayB_true f2
  obtain ⟨n20, hl40⟩ := lightB_true f1
  obtain ⟨b', o', C', e', _, hrw⟩ := ha.some (by omega)
  injection e' with e1 e2 e3
  injection e1 with e1
  injection e1 with e4 e5
  subst e4
  subst e5
  obtain ⟨l, hl⟩ : ∃ l, l = L 0 := ⟨_, rfl⟩
  have hrows : ∀ r, r < n → ∃ bx ox D, w.cell? ⟨b, o + r, none⟩ = some (.slice (some ⟨bx, ox, none⟩) l D) ∧ p ≤ D ∧ bx < w.heap.size ∧ RowV w (.slice (some ⟨bx, ox, none⟩) p D) p (X r) := fun r hr => by
    obtain ⟨A, C', e, _, h3⟩ := id ha
    injection e with e1 e2 e3
    subst e1
    obtain ⟨b', o', e4, h4⟩ := h3 (by omega)
    injection e4 with e5
    injection e5 with e6 e7
    subst e6
    subst e7
    obtain ⟨x, cx, hv⟩ := h4 r hr
    rw [hL r hr, ← hl] at hv
    obtain ⟨Ax, D, rfl, hD, hc⟩ := id hv
    obtain ⟨bx, ox, rfl, hcx⟩ := hc (by omega)
    exact ⟨bx, ox, D, cx, by omega, World.block_lt_of_cell? _ _ (hcx 0 (by omega)).1, row_front hv (by omega)⟩
  obtain ⟨bx0, ox0, D0, cx0, _⟩ := hrows 0 (by omega)
  rw [Nat.add_zero] at cx0
  have HX0 := Lib.hid cx0
  have HR := Lib.hid hrows
  have HA := Lib.hid ha
  have F1 := Lib.hid f1
  have F2 := Lib.hid f2
  have HLL := Lib.hid hl
  have hpl : p < l := by omega
  have t3 : decide ((m : Int) < 0) = false := by simp
  have t4 : decide ((10 : Int) < (m : Int)) = false := by simp; omega
  have t5 : decide ((p : Int) < 1) = false := by simp; omega
  have t6 : decide (l ≤ p) = false := decide_eq_false (by omega)
  have t7 : ((m : Int) != (m : Int)) = false := by simp
  have t8 : ((l : Int) != (l : Int)) = false := by simp
  have n0 : 0 < n := by omega
  obtain ⟨i0, hi, hz0, hz1, hz2⟩ := info_parts Try.info33
  have MH := Lib.hid (may_const n1 (by omega : n ≤ 64) p1 (by omega : p ≤ 4096))
  have hl4 : l ≤ 40 := by have := hl40 0 n0; omega
  clear ha f1 f2 hL hl40 hrw hrows hl p2 l1 l2 e2 e3 cx0
  go_enter Try.func6, Try.ntmps6
  go_wp2_with fail
  refine (awake_any _).mono ?_
  rintro e w1 ⟨rfl, hch1⟩
  have HA1 := Lib.hid (HA.out.gr hch1)
  have HC1 := Lib.hid hch1
  have c0 := hch1.cell HX0.out (fun f => f)
  clear hch1
  go_wp2_with fail
  refine (light_any _ n L X _ HA1.out).mono ?_
  rintro e w2 ⟨rfl, rfl⟩
  rw [F1.out]
  go_wp2_with fail
  refine (rmay_any _ n L X _ HA1.out).mono ?_
  rintro e w3 ⟨rfl, d3, rfl⟩
  rw [F2.out]
  go_wp2
  obtain ⟨w2, hw2⟩ : ∃ w2, w2 = w1.drewN d3 := ⟨_, rfl⟩
  rw [← hw2]
  have HC2 := Lib.hid (show Ch (fun _ => False) w w2 by rw [hw2]; exact HC1.out.drewN _)
  clear hw2 c0 t3 t4 t5 t6
  go_loopw [10, 11] (fun v t wr => ∃ k : Nat, k ≤ n ∧ t = .int .i64 k ∧ Hid (Ch (fun _ => False) w2 wr ∧ BldL w2.heap.size 0 wr v k (fun _ => p) X)) (fun _ t _ => n - (intOf t).toNat)
  case atStart => exact ⟨0, Nat.zero_le _, rfl, Lib.hid ⟨Ch.refl _ _, BldL.nil _ _ _ _ _⟩⟩
  case round =>
    obtain ⟨k, hk, rfl, HP⟩ := hrel
    obtain ⟨hch, hbld⟩ := HP.out
    by_cases hlt : k < n
    · obtain ⟨xs, ho, hro⟩ := hbld
      obtain ⟨bx, ox, D, cx, hpD, hbx, hrv⟩ := HR.out k hlt
      have hall := HC2.out.trans hch
      have c1 := hall.cell cx (fun f => f)
      have hbx2 := Nat.lt_of_lt_of_le hbx HC2.out.size
      have HX1 := Lib.hid (hrv.ch hall (fun _ _ f => f))
      have HXB := Lib.hid (show ∀ q, (Value.slice (some ⟨bx, ox, none⟩) p D).ownBlock = some q → q < wr.heap.size ∧ u10.ownBlock ≠ some q ∧ 0 ≤ q from fun q hq => by
        have e : bx = q := by simpa [Value.ownBlock] using hq
        refine ⟨by have := hch.size; omega, fun e2 => ?_, Nat.zero_le _⟩
        have h1 := (World.ownsRow.lt ho q e2).1
        omega)
      have HAP := Lib.hid (app_mk (x := .slice (some ⟨bx, ox, none⟩) p D) ho hch.size rfl (by omega))
      have HO := Lib.hid ho
      have HRO := Lib.hid hro
      have HCH := Lib.hid hch
      have HM2 := Lib.hid (show (k + 1) * 24 ≤ 140737488355328 by omega)
      clear ho hro hch hall cx hrv HP hbx hbx2
      go_wp2_with (at_builtin; refine wpList_append_lies _ rfl (.tmp 59) (.tmp 66) /-t-/22 rfl w2.heap.size /-t-/33 i0 (.slice none 0 0) 1 24 Try.underlying22 hi hz0 hz1 hz2 rfl (by decide) u10 k xs rfl HAP.out.o ⟨wr.heap.size, 0, none⟩ 1 1 [.slice (some ⟨bx, ox, none⟩) p D] rfl rfl HAP.out.n HAP.out.c (by decide) HAP.out.m HM2.out HAP.out.b (wr.heap.size + 1) HAP.out.s ?_; intro g' cap w5 h1 h2 h3 h4)
      have HN := Lib.hid (show Ch (fun _ => False) w2 w5 ∧ BldL w2.heap.size 0 w5 (.slice (some ⟨g', 0, none⟩) (k + 1) cap) (k + 1) (fun _ => p) X from ⟨Bld.moreCh _ _ HCH.out HO.out (Nat.le_refl _) h2, Bld.more _ HO.out HRO.out HX1.out HXB.out h1 h2 h3⟩)
      clear h1 h2 h3 h4
      go_wp2
      go_roundw
      case rel => exact ⟨k + 1, by omega, by go_num, HN⟩
      case measure => simp [intOf]; omega
    · have HE := Lib.hid (show k = n by omega)
      rw [HE.out] at hbld
      have hM := hbld.mat (by omega)
      obtain ⟨Ah, Ch', rfl, _⟩ := id hM
      have HM := Lib.hid hM
      have HCH := Lib.hid (HC2.out.trans hch)
      clear hM hbld hch HP
      go_wp2_with fail
      refine (encode_new _ n m L X _ (HA.out.gr HCH.out) F2.out (by omega)).mono ?_
      rintro e w5 ⟨va, rfl, hBa, hcha⟩
      rw [← HLL.out] at hBa
      obtain ⟨Aa, Ca, rfl, _, ha3⟩ := hBa.mat (by omega)
      have HAA := Lib.hid ha3
      have HCA := Lib.hid hcha
      clear hBa hcha ha3
      go_wp2_with fail
      refine (encode_new _ n m (fun _ => p) X _ (HM.out.gr HCA.out) MH.out (by omega)).mono ?_
      rintro e w6 ⟨vb, rfl, hBb, hchb⟩
      obtain ⟨Ab, Cb, rfl, _, hb3⟩ := hBb.mat (by omega)
      have HBB := Lib.hid hb3
      have HCB := Lib.hid hchb
      have HC6 := Lib.hid ((HCH.out.trans HCA.out).trans hchb)
      clear hBb hchb hb3
      go_wp2
      clear t7
      go_loopw [16] (fun t wr => ∃ i : Nat, i ≤ m ∧ t = .int .i64 i ∧ Hid (Ch (fun _ => False) w6 wr)) (fun t _ => m - (intOf t).toNat)
      case atStart => exact ⟨0, Nat.zero_le _, rfl, Lib.hid (Ch.refl _ _)⟩
      case round =>
        obtain ⟨i, him, rfl, HI⟩ := hrel
        by_cases hlt2 : i < m
        · obtain ⟨ga, oa, rfl, hca⟩ := HAA.out (by omega)
          obtain ⟨gb, ob, rfl, hcb⟩ := HBB.out (by omega)
          obtain ⟨x, cx, hx⟩ := hca i hlt2
          obtain ⟨y, cy, hy⟩ := hcb i hlt2
          obtain ⟨Ax, Cx, rfl, hcx, hx3⟩ := id hx
          obtain ⟨Ay, Cy, rfl, hcy, hy3⟩ := id hy
          obtain ⟨bx, ox, rfl, _⟩ := hx3 (by omega)
          obtain ⟨by', oy, rfl, _⟩ := hy3 (by omega)
          have d0 := (HC6.out.trans HI.out).cell HX0.out (fun f => f)
          have dx := (HCB.out.trans HI.out).cell cx (fun f => f)
          have dy := HI.out.cell cy (fun f => f)
          have hx' := (row_front hx (show p ≤ l by omega)).ch (HCB.out.trans HI.out) (fun _ _ f => f)
          have hy' := hy.ch HI.out (fun _ _ f => f)
          have cvx := row_text hx' (by omega)
          have cvy := row_text hy' (by omega)
          obtain ⟨S, hS⟩ : ∃ S, S = textOf p (mulZ n (cauZ n) X i) := ⟨_, rfl⟩
          rw [← hS] at cvx cvy
          have hpx : p ≤ Cx := by omega
          have hpx' : (p : Int) ≤ (Cx : Int) := by omega
          have hn0 : (0 : Int) < (n : Int) := by omega
          have him' : (i : Int) < (m : Int) := by omega
          clear hS hca hcb cx cy hx hy hx3 hy3 hx' hy' hcx hcy
          go_wp2
          go_quiet (fail)
          go_wp2
          go_roundw
          case rel => exact ⟨i + 1, by omega, by go_num, Lib.hid (HI.out.drewN _)⟩
          case measure => simp [intOf]; omega
        · go_wp2
          go_ret
          exact ⟨rfl, HC6.out.trans HI.out⟩
theorem rsParts_of (va : Value) (m p : Int) (w : World) {n : Nat} {L : Nat → Nat} {X : Nat → Nat → Nat} (ha : MatV w va n L X) (hm : -9223372036854775808 ≤ m ∧ m ≤ 9223372036854775807) (hp : -9223372036854775808 ≤ p ∧ p ≤ 9223372036854775807) : Calls Try.prog 6 #[va, .int .i64 m, .int .i64 p] w (Told w) := by
  by_cases h : lightB n L = true ∧ mayB n L = true ∧ 0 ≤ m ∧ m ≤ 10 ∧ 1 ≤ p ∧ p < L 0
  · obtain ⟨h1, h2, h3, h4, h5, h6⟩ := h
    obtain ⟨m, rfl⟩ := Int.eq_ofNat_of_zero_le h3
    obtain ⟨p, rfl⟩ := Int.eq_ofNat_of_zero_le (show 0 ≤ p by omega)
    obtain ⟨b, o, C, rfl, _, _⟩ := ha.some (mayB_true h2).1
    exact rsParts_main b o C n m p L X w ha h1 h2 (by omega) (by omega) (by omega)
  · exact rsParts_short va n L X m p w ha h
#print axioms rsParts_of
end Go.Proofs.Ytlgdajmidcdiaaa
