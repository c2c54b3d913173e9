/-
  SupLeft, walked.
-/
import Derived.Test.YtjdknebifcdicaaMg40
import Derived.Test.YtjdknebifcdicaaMg23
namespace Go.Proofs.Ytjdknebifcdicaa
open Go.RowKit
set_option linter.unusedVariables false
set_option maxRecDepth 100000

theorem build0_su (w : World) : (Instr.build 25 #[]).run Try.prog w = .ok (.agg #[.int .i64 0, .int .i64 0, .int .i64 0, .int .i64 0, .int .i64 0, .int .i64 0, .int .i64 0, .int .i64 0, .int .i64 0, .int .i64 0, .int .i64 0, .int .i64 0]) w := build_su w
attribute [local go_sem] guard_su build0_su
theorem su_x0 {w : World} {H : Nat} (h : w.heap[H]? = some (.cells (supC sp0) 25 (0, 0))) : ∀ i, i < 12 → w.cell? ⟨H, i, none⟩ = some (.int .i64 0) := fun i hi => by
  rw [blk_cell h]
  match i, hi with
  | 0, _ | 1, _ | 2, _ | 3, _ | 4, _ | 5, _ | 6, _ | 7, _ | 8, _ | 9, _ | 10, _ | 11, _ => rfl
/-- Is one left of the first k? -/
def leftB (q : Nat → Bool) : Nat → Bool
  | 0 => false
  | k + 1 => if q k then leftB q k else true
theorem left_iff (q : Nat → Bool) : ∀ k, leftB q k = true ↔ ∃ a, a < k ∧ q a = false
  | 0 => ⟨fun h => (by cases h), fun ⟨a, ha, _⟩ => absurd ha (Nat.not_lt_zero a)⟩
  | k + 1 => by
    unfold leftB
    cases hq : q k
    · rw [if_neg (by decide)]
      exact ⟨fun _ => ⟨k, by omega, hq⟩, fun _ => rfl⟩
    · rw [if_pos rfl, left_iff q k]
      constructor
      · rintro ⟨a, ha, e⟩; exact ⟨a, by omega, e⟩
      · rintro ⟨a, ha, e⟩
        refine ⟨a, ?_, e⟩
        by_cases w : a = k
        · subst w; rw [hq] at e; cases e
        · omega
def lfD (x : Sp) (q : Nat → Bool) (k : Nat) : Dev := lostTo (instD x (dev0 8)) q k
section
variable {x : Sp} {q : Nat → Bool}
theorem lf_inst (hm : mayS x = true) : instE x (dev0 8) = 0 ∧ Fine 8 (instD x (dev0 8)) ∧ ∀ a, a < 4 → HasZ (instD x (dev0 8)) a (sectS x (a : Int)) := inst_fine (by decide) hm (fine0 8)
theorem lf_fine (hm : mayS x = true) : Fine 8 (lfD x q 4) ∧ (lfD x q 4).has = (instD x (dev0 8)).has ∧ ∀ a, (lfD x q 4).lost a = ((instD x (dev0 8)).lost a || (decide (a < 4) && q a)) := lost_fine (lf_inst hm).2.1 q 4 (by decide)
theorem lf_told (hm : mayS x = true) {O : Nat → Option Sp} (h : ∀ c, c < 4 → TellS (supN (lfD x q 4) c) (supZ (lfD x q 4) c) (c : Int) (O c)) (c : Nat) (hc : c < 4) : O c = if q c then none else some x := by
  obtain ⟨f1, f2, f3⟩ := lf_fine (q := q) hm
  have hz := (lf_inst hm).2.2 c hc
  have hl : (lfD x q 4).lost c = q c := by rw [f3, hz.1, decide_eq_true hc]; simp
  cases hq : q c
  · rw [if_neg (by decide)]
    exact told_has f1.qt (by decide) hc hm ⟨by rw [hl, hq], fun b hb => by rw [f2]; exact hz.2 b hb⟩ (h c hc)
  · rw [if_pos rfl]
    exact told_lost f1.qt (by decide) hc (by rw [hl, hq]) (h c hc)
theorem lf_yes (hm : mayS x = true) (hl : leftB q 4 = true) {O : Nat → Option Sp} (h : ∀ c, c < 4 → TellS (supN (lfD x q 4) c) (supZ (lfD x q 4) c) (c : Int) (O c)) : pickF O 4 = some x := by
  obtain ⟨a, ha, e⟩ := (left_iff q 4).1 hl
  refine pick_all (fun c hc => ?_) ⟨a, ha, by rw [lf_told hm h a ha, e]; rfl⟩
  rw [lf_told hm h c hc]
  cases q c
  · exact Or.inr rfl
  · exact Or.inl rfl
theorem lf_no (hm : mayS x = true) (hl : leftB q 4 = false) {O : Nat → Option Sp} (h : ∀ c, c < 4 → TellS (supN (lfD x q 4) c) (supZ (lfD x q 4) c) (c : Int) (O c)) : pickF O 4 = none :=
  pick_none fun c hc => by
    rw [lf_told hm h c hc]
    cases hq : q c
    · have := (left_iff q 4).2 ⟨c, hc, hq⟩
      rw [hl] at this; cases this
    · rfl
theorem lf_lims : (Lim (dev0 8) 0 ∧ LimM (dev0 8) 0) ∧ ∀ k, Lim (lfD x q k) (52 + k) ∧ LimM (lfD x q k) (52 + k) := by
  have l0 := limz 8 0
  have l1 := inst_lim (x := x) l0.1 l0.2
  exact ⟨l0, fun k => by
    have := lost_lim (q := q) l1.1 l1.2 k
    rw [Nat.zero_add] at this
    exact this⟩
end
set_option maxHeartbeats 6400000 in
theorem supLeft_of (x : Sp) (q : Nat → Bool) (w : World) : Calls Try.prog 5 #[.agg (supC x), .agg (boolV q)] w (Told w) := by
  obtain ⟨w1, H, hR⟩ := boxR w (supC x) 25
  obtain ⟨wg, hwk⟩ : ∃ wk, w1.alloc (.cells (boolV q) 39) = wk := ⟨_, rfl⟩
  obtain ⟨KA, hKA⟩ : ∃ KA, w1.heap.size = KA := ⟨_, rfl⟩
  have hck : Ch (fun _ => False) w1 wg := by rw [← hwk]; exact (Ch.refl _ w1).alloc _ _
  have hkx : wg.heap[KA]? = some (.cells (boolV q) 39 (0, 0)) := by rw [← hwk, ← hKA]; exact heap_alloc_new w1 _
  have HXG := Lib.hid ((hck.block H (blk_lt hR.cx) (fun f => f)).trans hR.cx)
  have HT := Lib.hid (show ∀ j, j < 4 → wg.cell? ⟨KA, j, none⟩ = some (.bool (q j)) from fun j hj => by
    rw [blk_cell hkx]
    match j, hj with
    | 0, _ | 1, _ | 2, _ | 3, _ => rfl)
  have HCG := Lib.hid (hR.ch.trans hck)
  have HR := Lib.hid hR
  have HKW := Lib.hid hwk
  have HKZ := Lib.hid hKA
  clear hR hck hkx hwk hKA
  go_enter Try.func5, Try.ntmps5
  go_wp2_with (first
    | ((with_reducible refine wpList_isOp (.box 25 (.tmp 0)) rfl ?_); refine wpList_boxing _ w1 rfl 25 (.tmp 0) rfl (supC x) H rfl (by exact HR.out.sz) (by exact HR.out.al) ?_)
    | ((with_reducible refine wpList_isOp (.box 39 (.tmp 1)) rfl ?_); refine wpList_boxing _ wg rfl 39 (.tmp 1) rfl (boolV q) KA rfl (by exact HKZ.out) (by exact HKW.out) ?_))
  refine (awake_any _).mono ?_
  rintro e w2 ⟨rfl, hc2⟩
  have HC2 := Lib.hid hc2
  obtain ⟨x0, x1, x2, x3, x4, x5, x6, x7, x8, x9, x10, x11⟩ := (su_x HXG.out).gr hc2
  clear hc2
  go_wp2_with fail
  refine (smay_any x _).mono ?_
  rintro e w3 ⟨rfl, hc3⟩
  have HC3 := Lib.hid (HC2.out.trans hc3)
  clear hc3 x0 x1 x2 x3 x4 x5 x6 x7 x8 x9 x10 x11
  cases hm : mayS x
  · go_wp2
    go_ret
    exact ⟨rfl, HCG.out.trans HC3.out⟩
  have HM := Lib.hid hm
  clear hm
  go_wp2_with fail
  refine (One.new 8 _ (by decide) (by decide) _ HC3.out).mono ?_
  rintro e w4 ⟨B, rfl, hD⟩
  have HD4 := Lib.hid hD
  have HL4 := Lib.hid (load_su ((hD.ch.block H (blk_lt (o := .cells (supC x) 25 (0, 0)) HXG.out) (fun f => f)).trans HXG.out))
  clear hD
  go_wp2_with (first | ((with_reducible refine wpList_isOp (.load 25 (.tmp 2)) rfl ?_); refine wpList_loading _ rfl 25 (.tmp 2) rfl (.agg (supC x)) ⟨H, 0, none⟩ rfl (by exact HL4.out) ?_) | fail)
  refine (HD4.out.install (t := 0) x (lf_lims (x := x) (q := q)).1.1 (lf_lims (x := x) (q := q)).1.2 (by decide)).mono ?_
  rintro e w5 ⟨rfl, hD⟩
  rw [(lf_inst HM.out).1]
  have HD5 := Lib.hid (show One wg B (lfD x q 0) w5 from hD)
  clear hD
  go_wp2_with fail
  go_loopw [9, 10] (fun l i wr => ∃ k : Nat, k ≤ 4 ∧ i = .int .i64 k ∧ l = .bool (leftB q k) ∧ Hid (One wg B (lfD x q k) wr)) (fun _ i _ => 4 - (intOf i).toNat)
  case atStart => exact ⟨0, Nat.zero_le _, rfl, rfl, HD5⟩
  case round =>
    obtain ⟨k, hk, rfl, rfl, HK⟩ := hrel
    by_cases hlt : k < 4
    · have i1 : (0 : Int) ≤ (k : Int) := Int.natCast_nonneg _
      have i2 : (k : Int) < 4 := by omega
      have hc0 := HK.out.ch.cell (HT.out k hlt) (fun f => f)
      have HF := Lib.hid (HK.out.fault (t := 52 + k) (f := fls (k : Int)) (fls_ok (by unfold I64; omega)) ((lf_lims (x := x) (q := q)).2 k).1 ((lf_lims (x := x) (q := q)).2 k).2 (by omega))
      have HLT := Lib.hid hlt
      clear hlt
      cases hq : q k
      · rw [hq] at hc0
        have HN := Lib.hid (show One wg B (lfD x q (k + 1)) wr by
          show One wg B (if q k then _ else lostTo (instD x (dev0 8)) q k) wr
          rw [hq]; exact HK.out)
        have HLF := Lib.hid (show leftB q (k + 1) = true by unfold leftB; rw [hq]; rfl)
        clear hq HF
        go_wp2
        go_roundw
        case rel => exact ⟨k + 1, HLT.out, by go_num, by rw [HLF.out], HN⟩
        case measure => have := HLT.out; simp [intOf]; omega
      · rw [hq] at hc0
        have HLF := Lib.hid (show leftB q (k + 1) = leftB q k by show (if q k then leftB q k else true) = _; rw [hq]; rfl)
        have HQ := Lib.hid hq
        clear hq
        go_wp2_with fail
        refine HF.out.mono ?_
        rintro e w6 ⟨rfl, hD⟩
        have HN := Lib.hid (show One wg B (lfD x q (k + 1)) w6 by
          show One wg B (if q k then _ else lostTo (instD x (dev0 8)) q k) w6
          rw [HQ.out]; exact hD)
        obtain ⟨E, hE⟩ : ∃ E, E = faultE (lfD x q k) (fls (k : Int)) := ⟨_, rfl⟩
        rw [← hE]
        clear hD hE
        go_wp2
        go_roundw
        case rel => exact ⟨k + 1, HLT.out, by go_num, by rw [HLF.out], HN⟩
        case measure => have := HLT.out; simp [intOf]; omega
    · obtain rfl : k = 4 := by omega
      clear hlt hk
      rw [show ((4 : Nat) : Int) = 4 from rfl]
      go_wp2_with fail
      refine (HK.out.supRead (t := 56) (lf_fine HM.out).1.qt.dead ((lf_lims (x := x) (q := q)).2 4).1 (by decide)).mono ?_
      rintro e w7 ⟨O, hO, rfl, hD⟩
      cases hl : leftB q 4
      · rw [lf_no HM.out hl hO, show optS none = sp0 from rfl, show pkE none = 22 from rfl]
        obtain ⟨wz, w8, H8, hV8⟩ := varS sp0 w7
        have HC8 := Lib.hid (HCG.out.trans (hD.ch.trans hV8.ch))
        have hx := su_x0 hV8.cx
        have y0 := hx 0 (by decide)
        have y1 := hx 1 (by decide)
        have y2 := hx 2 (by decide)
        have y3 := hx 3 (by decide)
        have y4 := hx 4 (by decide)
        have y5 := hx 5 (by decide)
        have y6 := hx 6 (by decide)
        have y7 := hx 7 (by decide)
        have y8 := hx 8 (by decide)
        have y9 := hx 9 (by decide)
        have y10 := hx 10 (by decide)
        have y11 := hx 11 (by decide)
        have HV8 := Lib.hid hV8
        clear hx hD hV8 hO hl
        go_wp2_with (first
          | ((with_reducible refine wpList_isOp (.alloc 25) rfl ?_); refine wpList_making _ wz rfl 25 rfl (supC sp0) H8 (zero_su _) (by exact HV8.out.sz) (by exact HV8.out.al) ?_)
          | ((with_reducible refine wpList_isOp (.store 25 (.tmp 11) (.tmp 43)) rfl ?_); refine wpList_storing _ w8 rfl 25 (.tmp 11) (.tmp 43) rfl (.agg (supC sp0)) ⟨H8, 0, none⟩ rfl rfl (by exact HV8.out.st) ?_)
          | fail)
        go_ret
        exact ⟨rfl, HC8.out⟩
      · rw [lf_yes HM.out hl hO, show optS (some x) = x from rfl, show pkE (some x) = 0 from rfl]
        obtain ⟨wz, w8, H8, hV8⟩ := varS x w7
        have HC8 := Lib.hid (HCG.out.trans (hD.ch.trans hV8.ch))
        obtain ⟨y0, y1, y2, y3, y4, y5, y6, y7, y8, y9, y10, y11⟩ := su_x hV8.cx
        obtain ⟨x0, x1, x2, x3, x4, x5, x6, x7, x8, x9, x10, x11⟩ := (su_x HXG.out).gr (hD.ch.trans hV8.ch)
        have HV8 := Lib.hid hV8
        clear hD hV8 hO hl
        go_wp2_with (first
          | ((with_reducible refine wpList_isOp (.alloc 25) rfl ?_); refine wpList_making _ wz rfl 25 rfl (supC sp0) H8 (zero_su _) (by exact HV8.out.sz) (by exact HV8.out.al) ?_)
          | ((with_reducible refine wpList_isOp (.store 25 (.tmp 11) (.tmp 43)) rfl ?_); refine wpList_storing _ w8 rfl 25 (.tmp 11) (.tmp 43) rfl (.agg (supC x)) ⟨H8, 0, none⟩ rfl rfl (by exact HV8.out.st) ?_)
          | fail)
        go_ret
        exact ⟨rfl, HC8.out⟩
#print axioms supLeft_of
end Go.Proofs.Ytjdknebifcdicaa
