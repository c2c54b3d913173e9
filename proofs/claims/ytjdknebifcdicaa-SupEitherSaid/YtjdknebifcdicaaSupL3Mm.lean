/-
  SupEither, walked.
-/
import Derived.Test.YtjdknebifcdicaaMg40
import Derived.Test.YtjdknebifcdicaaSupQMm
import Derived.Test.YtjdknebifcdicaaMg8
namespace Go.Proofs.Ytjdknebifcdicaa
open Go.RowKit
set_option linter.unusedVariables false
set_option maxRecDepth 100000
attribute [local go_sem] guard_su

section
variable {w0 w : World} {B : Nat} {d : Dev}
theorem One.arm (h : One w0 B d w) {n : Int} (hn : -9223372036854775808 ≤ n ∧ n ≤ 9223372036854775807) : Calls Try.prog 22 #[.pointer (some ⟨B, 0, none⟩), .int .i64 n] w (OneP w0 B (armD d n) (.tuple #[])) :=
  h.calls fun p hp h3 => by rw [← hp]; exact arm_any _ p d n w h3 hn
theorem One.crash {A : Option Addr} {m C t : Nat} {q : Nat → Bool} (h : One w0 B d w) (hk : RowQ w0 (.slice A m C) m q) (hl : Lim d t) (ht : t ≤ 900000) : Calls Try.prog 23 #[.pointer (some ⟨B, 0, none⟩), .slice A m C] w (OneP w0 B (crashD d m q) (.tuple #[])) :=
  h.calls fun p hp h3 => by
    rw [← hp]
    refine crash_any _ p d A m C q w h3 (by have := hl.W; omega) (hk.gr h.ch) fun b o hA hm hf => ?_
    obtain ⟨A', C', e, _, hc⟩ := hk
    injection e with e _ _
    subst e
    obtain ⟨b', o', e2, hcell⟩ := hc hm
    rw [hA] at e2
    injection e2 with e2
    injection e2 with e3 _
    subst e3
    have h1 := World.block_lt_of_cell? _ _ (hcell 0 hm)
    have h2 := (h3.foot hf).1
    simp at h1
    omega
end
set_option maxHeartbeats 3200000 in
theorem supEither_off (x y : Sp) (die : Int) (A : Option Addr) (m C : Nat) (w : World) (hh : mayS x = true → mayS y = true → y.gen ≤ x.gen ∨ die < 0 ∨ 20 < m) : Calls Try.prog 6 #[.agg (supC x), .agg (supC y), .int .i64 die, .slice A m C] w (Told w) := by
  have HTT := Lib.hid hh
  clear hh
  obtain ⟨w1, H, hR⟩ := boxR w (supC x) 25
  obtain ⟨wg, G, hS⟩ := boxR w1 (supC y) 25
  have HX := Lib.hid ((su_x hR.cx).gr hS.ch)
  have HY := Lib.hid (su_x hS.cx)
  have HC := Lib.hid (hR.ch.trans hS.ch)
  have HR := Lib.hid hR
  have HS := Lib.hid hS
  clear hR hS
  go_enter Try.func6, Try.ntmps6
  go_wp2_with (first
    | ((with_reducible refine wpList_isOp (.box 25 (.tmp 0)) rfl ?_); refine wpList_boxing _ w1 rfl 25 (.tmp 0) rfl (supC x) H rfl (by exact HR.out.sz) (by exact HR.out.al) ?_)
    | ((with_reducible refine wpList_isOp (.box 25 (.tmp 1)) rfl ?_); refine wpList_boxing _ wg rfl 25 (.tmp 1) rfl (supC y) G rfl (by exact HS.out.sz) (by exact HS.out.al) ?_))
  refine (awake_any _).mono ?_
  rintro e w2 ⟨rfl, hc2⟩
  have HC2 := Lib.hid (HC.out.trans hc2)
  have HX2 := Lib.hid (HX.out.gr hc2)
  have HY2 := Lib.hid (HY.out.gr hc2)
  obtain ⟨x0, x1, x2, x3, x4, x5, x6, x7, x8, x9, x10, x11⟩ := HX2.out
  clear hc2
  go_wp2_with fail
  refine (smay_any x _).mono ?_
  rintro e w3 ⟨rfl, hc3⟩
  have HC3 := Lib.hid (HC2.out.trans hc3)
  have HX3 := Lib.hid (HX2.out.gr hc3)
  have HY3 := Lib.hid (HY2.out.gr hc3)
  clear hc3 x0 x1 x2 x3 x4 x5 x6 x7 x8 x9 x10 x11
  cases hm : mayS x
  · go_wp2
    go_ret
    exact ⟨rfl, HC3.out⟩
  have HMX := Lib.hid hm
  clear hm
  obtain ⟨y0, y1, y2, y3, y4, y5, y6, y7, y8, y9, y10, y11⟩ := HY3.out
  go_wp2_with fail
  refine (smay_any y _).mono ?_
  rintro e w4 ⟨rfl, hc4⟩
  have HC4 := Lib.hid (HC3.out.trans hc4)
  clear y0 y1 y2 y3 y4 y5 y6 y7 y8 y9 y10 y11
  obtain ⟨x0, x1, x2, x3, x4, x5, x6, x7, x8, x9, x10, x11⟩ := HX3.out.gr hc4
  obtain ⟨y0, y1, y2, y3, y4, y5, y6, y7, y8, y9, y10, y11⟩ := HY3.out.gr hc4
  clear hc4
  cases hm : mayS y
  · go_wp2
    go_ret
    exact ⟨rfl, HC4.out⟩
  by_cases hg : y.gen ≤ x.gen
  · go_wp2
    go_ret
    exact ⟨rfl, HC4.out⟩
  by_cases h2 : die < 0
  · go_wp2
    go_ret
    exact ⟨rfl, HC4.out⟩
  · have h3 : (20 : Int) < (m : Int) := by
      rcases HTT.out HMX.out hm with h | h | h
      · exact absurd h hg
      · exact absurd h h2
      · omega
    go_wp2
    go_ret
    exact ⟨rfl, HC4.out⟩
#print axioms supEither_off
set_option maxHeartbeats 6400000 in
theorem supEither_at (x y : Sp) (die : Int) (A : Option Addr) (m C : Nat) (q : Nat → Bool) (w : World) (hmx : mayS x = true) (hmy : mayS y = true) (hg : x.gen < y.gen) (hd : 0 ≤ die ∧ die ≤ 9223372036854775807) (hm : m ≤ 20) (hq : RowQ w (.slice A m C) m q) :
    Calls Try.prog 6 #[.agg (supC x), .agg (supC y), .int .i64 die, .slice A m C] w (Told w) := by
  have HMX := Lib.hid hmx
  have HMY := Lib.hid hmy
  have HALL := Lib.hid (ei_all hmx hmy die m q)
  have HLIM := Lib.hid (ei_lims (x := x) (y := y) (die := die) (m := m) (q := q))
  have HDIE := Lib.hid hd
  obtain ⟨w1, H, hR⟩ := boxR w (supC x) 25
  obtain ⟨wg, G, hS⟩ := boxR w1 (supC y) 25
  have HX := Lib.hid ((hS.ch.block H (blk_lt hR.cx) (fun f => f)).trans hR.cx)
  have HY := Lib.hid hS.cx
  have HCG := Lib.hid (hR.ch.trans hS.ch)
  have HQ := Lib.hid (hq.gr (hR.ch.trans hS.ch))
  have HR := Lib.hid hR
  have HS := Lib.hid hS
  have g1 : ¬ y.gen ≤ x.gen := by omega
  have g2 : ¬ die < 0 := by omega
  have g3 : ¬ (20 : Int) < (m : Int) := by omega
  have HG1 := Lib.hid g1
  have HG2 := Lib.hid g2
  have HG3 := Lib.hid g3
  have HNE := Lib.hid (show ¬ y.gen = x.gen by omega)
  clear hR hS hmx hmy hd hq hg hm g1 g2 g3
  go_enter Try.func6, Try.ntmps6
  go_wp2_with (first
    | ((with_reducible refine wpList_isOp (.box 25 (.tmp 0)) rfl ?_); refine wpList_boxing _ w1 rfl 25 (.tmp 0) rfl (supC x) H rfl (by exact HR.out.sz) (by exact HR.out.al) ?_)
    | ((with_reducible refine wpList_isOp (.box 25 (.tmp 1)) rfl ?_); refine wpList_boxing _ wg rfl 25 (.tmp 1) rfl (supC y) G rfl (by exact HS.out.sz) (by exact HS.out.al) ?_))
  refine (awake_any _).mono ?_
  rintro e w2 ⟨rfl, hc2⟩
  have HC2 := Lib.hid hc2
  obtain ⟨x0, x1, x2, x3, x4, x5, x6, x7, x8, x9, x10, x11⟩ := (su_x HX.out).gr hc2
  clear hc2
  go_wp2_with fail
  refine (smay_any x _).mono ?_
  rintro e w3 ⟨rfl, hc3⟩
  have HC3 := Lib.hid (HC2.out.trans hc3)
  rw [HMX.out]
  clear hc3 x0 x1 x2 x3 x4 x5 x6 x7 x8 x9 x10 x11
  obtain ⟨y0, y1, y2, y3, y4, y5, y6, y7, y8, y9, y10, y11⟩ := (su_x HY.out).gr HC3.out
  go_wp2_with fail
  refine (smay_any y _).mono ?_
  rintro e w4 ⟨rfl, hc4⟩
  have HC4 := Lib.hid (HC3.out.trans hc4)
  rw [HMY.out]
  clear hc4 y0 y1 y2 y3 y4 y5 y6 y7 y8 y9 y10 y11
  have x1 := ((su_x HX.out).gr HC4.out).2.1
  have y1 := ((su_x HY.out).gr HC4.out).2.1
  have g1 := HG1.out
  have g2 := HG2.out
  have g3 := HG3.out
  go_wp2_with fail
  clear x1 y1 g1 g2 g3
  refine (One.new 8 _ (by decide) (by decide) _ HC4.out).mono ?_
  rintro e w5 ⟨B, rfl, hD⟩
  have HD5 := Lib.hid hD
  have HL5 := Lib.hid (load_su ((hD.ch.block H (blk_lt (o := .cells (supC x) 25 (0, 0)) HX.out) (fun f => f)).trans HX.out))
  clear hD
  go_wp2_with (first | ((with_reducible refine wpList_isOp (.load 25 (.tmp 4)) rfl ?_); refine wpList_loading _ rfl 25 (.tmp 4) rfl (.agg (supC x)) ⟨H, 0, none⟩ rfl (by exact HL5.out) ?_) | fail)
  refine (HD5.out.install (t := 0) x (limz 8 0).1 (limz 8 0).2 (by decide)).mono ?_
  rintro e w6 ⟨rfl, hD⟩
  rw [(inst_fine (N := 8) (by decide) HMX.out (fine0 8)).1]
  have HD6 := Lib.hid hD
  clear hD
  go_wp2_with fail
  refine (HD6.out.arm (n := die) ⟨by have := HDIE.out.1; omega, HDIE.out.2⟩).mono ?_
  rintro e w7 ⟨rfl, hD⟩
  have HD7 := Lib.hid (show One wg B (eiA x die) w7 from hD)
  have HL7 := Lib.hid (load_su ((hD.ch.block G (blk_lt (o := .cells (supC y) 25 (0, 0)) HY.out) (fun f => f)).trans HY.out))
  clear hD
  go_wp2_with (first | ((with_reducible refine wpList_isOp (.load 25 (.tmp 5)) rfl ?_); refine wpList_loading _ rfl 25 (.tmp 5) rfl (.agg (supC y)) ⟨G, 0, none⟩ rfl (by exact HL7.out) ?_) | fail)
  refine (HD7.out.install (t := 52) y HLIM.out.1.1 HLIM.out.1.2 (by decide)).mono ?_
  rintro e w8 ⟨rfl, hD⟩
  have HD8 := Lib.hid (show One wg B (eiI x y die) w8 from hD)
  obtain ⟨F, hF⟩ : ∃ F, F = instE y (eiA x die) := ⟨_, rfl⟩
  have HF := Lib.hid hF
  rw [← hF]
  clear hD hF
  go_wp2_with fail
  refine (HD8.out.crash HQ.out HLIM.out.2.1.1 (by decide)).mono ?_
  rintro e w9 ⟨rfl, hD⟩
  have HD9 := Lib.hid (show One wg B (eiC x y die m q) w9 from hD)
  clear hD
  go_wp2_with fail
  refine (HD9.out.supRead (t := 105) HALL.out.1.dead HLIM.out.2.2 (by decide)).mono ?_
  rintro e w10 ⟨O, hO, rfl, hD⟩
  obtain ⟨k1, k2⟩ := HALL.out.2.2 O hO
  have hFF : (F = 0 ∧ pickF O 4 = some y) ∨ (F = 21 ∧ pickF O 4 = some x) ∨ (F = 21 ∧ pickF O 4 = some y) := by
    rcases HALL.out.2.1 with h | h
    · exact Or.inl ⟨HF.out.trans h, k1 h⟩
    · exact Or.inr (k2.elim (fun k => Or.inl ⟨HF.out.trans h, k⟩) fun k => Or.inr ⟨HF.out.trans h, k⟩)
  have HCD := Lib.hid hD.ch
  clear hD hO k1 k2
  rcases hFF with ⟨rfl, e⟩ | ⟨rfl, e⟩ | ⟨rfl, e⟩
  · rw [e, show optS (some y) = y from rfl, show pkE (some y) = 0 from rfl]
    obtain ⟨wz, wb, H8, hV8⟩ := varS y w10
    have HC8 := Lib.hid (HCG.out.trans (HCD.out.trans hV8.ch))
    obtain ⟨z0, z1, z2, z3, z4, z5, z6, z7, z8, z9, z10, z11⟩ := su_x hV8.cx
    obtain ⟨y0, y1, y2, y3, y4, y5, y6, y7, y8, y9, y10, y11⟩ := (su_x HY.out).gr (HCD.out.trans hV8.ch)
    have HV8 := Lib.hid hV8
    clear hV8 e
    go_wp2_with (first
      | ((with_reducible refine wpList_isOp (.alloc 25) rfl ?_); refine wpList_making _ wz rfl 25 rfl (supC sp0) H8 (zero_su _) (by exact HV8.out.sz) (by exact HV8.out.al) ?_)
      | ((with_reducible refine wpList_isOp (.store 25 (.tmp 14) (.tmp 65)) rfl ?_); refine wpList_storing _ wb rfl 25 (.tmp 14) (.tmp 65) rfl (.agg (supC y)) ⟨H8, 0, none⟩ rfl rfl (by exact HV8.out.st) ?_)
      | fail)
    go_ret
    exact ⟨rfl, HC8.out⟩
  · rw [e, show optS (some x) = x from rfl, show pkE (some x) = 0 from rfl]
    obtain ⟨wz, wb, H8, hV8⟩ := varS x w10
    have HC8 := Lib.hid (HCG.out.trans (HCD.out.trans hV8.ch))
    obtain ⟨z0, z1, z2, z3, z4, z5, z6, z7, z8, z9, z10, z11⟩ := su_x hV8.cx
    obtain ⟨x0, x1, x2, x3, x4, x5, x6, x7, x8, x9, x10, x11⟩ := (su_x HX.out).gr (HCD.out.trans hV8.ch)
    have HV8 := Lib.hid hV8
    clear hV8 e
    go_wp2_with (first
      | ((with_reducible refine wpList_isOp (.alloc 25) rfl ?_); refine wpList_making _ wz rfl 25 rfl (supC sp0) H8 (zero_su _) (by exact HV8.out.sz) (by exact HV8.out.al) ?_)
      | ((with_reducible refine wpList_isOp (.store 25 (.tmp 14) (.tmp 65)) rfl ?_); refine wpList_storing _ wb rfl 25 (.tmp 14) (.tmp 65) rfl (.agg (supC x)) ⟨H8, 0, none⟩ rfl rfl (by exact HV8.out.st) ?_)
      | fail)
    go_ret
    exact ⟨rfl, HC8.out⟩
  · rw [e, show optS (some y) = y from rfl, show pkE (some y) = 0 from rfl]
    obtain ⟨wz, wb, H8, hV8⟩ := varS y w10
    have HC8 := Lib.hid (HCG.out.trans (HCD.out.trans hV8.ch))
    obtain ⟨z0, z1, z2, z3, z4, z5, z6, z7, z8, z9, z10, z11⟩ := su_x hV8.cx
    obtain ⟨x0, x1, x2, x3, x4, x5, x6, x7, x8, x9, x10, x11⟩ := (su_x HX.out).gr (HCD.out.trans hV8.ch)
    obtain ⟨y0, y1, y2, y3, y4, y5, y6, y7, y8, y9, y10, y11⟩ := (su_x HY.out).gr (HCD.out.trans hV8.ch)
    have hne := HNE.out
    have HV8 := Lib.hid hV8
    clear hV8 e
    go_wp2_with (first
      | ((with_reducible refine wpList_isOp (.alloc 25) rfl ?_); refine wpList_making _ wz rfl 25 rfl (supC sp0) H8 (zero_su _) (by exact HV8.out.sz) (by exact HV8.out.al) ?_)
      | ((with_reducible refine wpList_isOp (.store 25 (.tmp 14) (.tmp 65)) rfl ?_); refine wpList_storing _ wb rfl 25 (.tmp 14) (.tmp 65) rfl (.agg (supC y)) ⟨H8, 0, none⟩ rfl rfl (by exact HV8.out.st) ?_)
      | fail)
    all_goals (
      go_ret
      exact ⟨rfl, HC8.out⟩)
#print axioms supEither_at
theorem supEither_of (x y : Sp) (die : Int) (v : Value) (w : World) {m : Nat} {q : Nat → Bool} (hd : -9223372036854775808 ≤ die ∧ die ≤ 9223372036854775807) (hq : RowQ w v m q) : Calls Try.prog 6 #[.agg (supC x), .agg (supC y), .int .i64 die, v] w (Told w) := by
  obtain ⟨A, C, rfl, _⟩ := id hq
  by_cases h : mayS x = true ∧ mayS y = true ∧ x.gen < y.gen ∧ 0 ≤ die ∧ m ≤ 20
  · obtain ⟨h1, h2, h3, h4, h5⟩ := h
    exact supEither_at x y die A m C q w h1 h2 h3 ⟨h4, hd.2⟩ h5 hq
  · exact supEither_off x y die A m C w fun h1 h2 => by
      by_cases a : x.gen < y.gen
      · by_cases b : 0 ≤ die
        · right; right
          by_cases c : m ≤ 20
          · exact absurd ⟨h1, h2, a, b, c⟩ h
          · omega
        · right; left; omega
      · left; omega
#print axioms supEither_of
end Go.Proofs.Ytjdknebifcdicaa
