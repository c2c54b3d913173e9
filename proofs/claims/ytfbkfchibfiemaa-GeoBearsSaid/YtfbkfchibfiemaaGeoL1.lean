/-
  GeoBears, walked.
-/
import Derived.Test.YtfbkfchibfiemaaGeoW
namespace Go.Proofs.Ytfbkfchibfiemaa
open Go.RowKit
set_option linter.unusedVariables false
set_option maxRecDepth 100000

theorem brs_of {n : Gn} (h : n.Ok) {j : Nat} (hj : j < n.grp) : 1 ≤ n.brs j ∧ n.brs j < n.cnt j ∧ n.brs j ≤ 8 ∧ (j ≤ n.W ∨ (¬ j ≤ n.W ∧ n.cnt j - n.brs j = n.K)) := by
  have hk := h.k1
  have hm := h.m1
  have hm2 := h.m2
  unfold Gn.brs Gn.cnt
  by_cases e : j = 0
  · rw [if_pos e, if_pos e]; omega
  · rw [if_neg e, if_neg e]
    by_cases e2 : j < n.fg
    · rw [if_pos e2, if_pos e2]
      unfold Gn.fg at e2
      omega
    · rw [if_neg e2, if_neg e2]
      unfold Gn.fg at e2
      unfold Gn.q
      omega
set_option maxHeartbeats 3200000 in
set_option maxRecDepth 100000 in
theorem geoBears_of (g : Ge) (i : Int) (w : World) : Calls Try.prog 5 #[.agg (geC g), .int .i64 i] w (Told w) := by
  obtain ⟨w1, H, hR⟩ := geR w g
  have HR := Lib.hid hR
  have HX1 := Lib.hid hR.x
  clear hR
  cases t1 : inG g i
  · have h1 := of_decide_eq_false t1
    have H0 := Lib.hid (inG_no t1)
    obtain ⟨N, hN⟩ : ∃ N, N = grpG g := ⟨_, rfl⟩
    have HN := Lib.hid hN
    rw [← hN] at h1
    clear hN t1
    have hcase : (decide (i < 0) = true ∧ Hid True) ∨ (decide (i < 0) = false ∧ decide (N ≤ i) = true) := by
      by_cases q : i < 0
      · exact Or.inl ⟨decide_eq_true q, trivial⟩
      · exact Or.inr ⟨decide_eq_false q, decide_eq_true (by omega)⟩
    have HCS := Lib.hid hcase
    clear hcase h1
    go_enter Try.func5, Try.ntmps5
    go_wp2_with ((with_reducible refine wpList_isOp (.box 23 (.tmp 0)) rfl ?_); refine wpList_boxing _ w1 rfl 23 (.tmp 0) rfl (geC g) H rfl (by exact HR.out.sz) (by exact HR.out.al) ?_)
    refine (gawake_any _).mono ?_
    rintro e w2 ⟨rfl, hc2⟩
    have HX2 := Lib.hid (HX1.out.gr hc2)
    have HC2 := Lib.hid (HR.out.ch.trans hc2)
    have hx := HX2.out
    obtain ⟨x0, x1, x2, x3⟩ := hx
    clear hc2
    rcases HCS.out with ⟨t2, _⟩ | ⟨t2, t3⟩
    · go_wp2_with fail
      refine (bears_any g i _).mono ?_
      rintro e w3 ⟨rfl, hc3⟩
      rw [H0.out.2]
      have HX3 := Lib.hid (HX2.out.gr hc3)
      have HC3 := Lib.hid (HC2.out.trans hc3)
      have hx := HX3.out
      obtain ⟨y0, y1, y2, y3⟩ := hx
      clear hc3 x0 x1 x2 x3
      go_wp2_with fail
      refine (members_any g i _).mono ?_
      rintro e w4 ⟨G, rfl, _, hc4⟩
      rw [H0.out.1]
      go_wp2
      go_ret
      exact ⟨rfl, HC3.out.trans hc4⟩
    · go_wp2_with fail
      refine (groups_any g _).mono ?_
      rintro e w3 ⟨rfl, hc3⟩
      rw [← HN.out]
      have HX3 := Lib.hid (HX2.out.gr hc3)
      have HC3 := Lib.hid (HC2.out.trans hc3)
      have hx := HX3.out
      obtain ⟨y0, y1, y2, y3⟩ := hx
      clear hc3 x0 x1 x2 x3
      go_wp2_with fail
      refine (bears_any g i _).mono ?_
      rintro e w4 ⟨rfl, hc4⟩
      rw [H0.out.2]
      have HX4 := Lib.hid (HX3.out.gr hc4)
      have HC4 := Lib.hid (HC3.out.trans hc4)
      have hx := HX4.out
      obtain ⟨x0, x1, x2, x3⟩ := hx
      clear hc4 y0 y1 y2 y3
      go_wp2_with fail
      refine (members_any g i _).mono ?_
      rintro e w5 ⟨G, rfl, _, hc5⟩
      rw [H0.out.1]
      go_wp2
      go_ret
      exact ⟨rfl, HC4.out.trans hc5⟩
  · obtain ⟨n, j, hn, rfl, rfl, hj⟩ := inG_nat t1
    have HG := Lib.hid (grpG_ok hn)
    have HB := Lib.hid (brsG_ok hn hj)
    have HCN := Lib.hid (cntG_ok hn hj)
    obtain ⟨b1, b2, b3, b4⟩ := brs_of hn hj
    have b5 := Gn.cnt_le hn j
    have hw2 := hn.w2
    obtain ⟨N, hN⟩ : ∃ N, N = n.grp := ⟨_, rfl⟩
    have HN := Lib.hid hN
    rw [← hN] at hj
    have t2 : decide (N ≤ j) = false := decide_eq_false (by omega)
    obtain ⟨B, hB⟩ : ∃ B, B = n.brs j := ⟨_, rfl⟩
    obtain ⟨C, hC⟩ : ∃ C, C = n.cnt j := ⟨_, rfl⟩
    obtain ⟨W, hW⟩ : ∃ W, W = n.W := ⟨_, rfl⟩
    obtain ⟨K, hK⟩ : ∃ K, K = n.K := ⟨_, rfl⟩
    have HBB := Lib.hid hB
    have HCC := Lib.hid hC
    have HWW := Lib.hid (show n.ge.wal = (W : Int) by rw [hW]; rfl)
    have HKK := Lib.hid (show n.ge.k = (K : Int) by rw [hK]; rfl)
    rw [← hB, ← hC] at b2
    rw [← hB] at b1 b3 b4
    rw [← hC] at b4 b5
    rw [← hW, ← hK] at b4
    rw [← hW] at hw2
    have t3 : decide (1 ≤ B) = true := decide_eq_true b1
    have t4 : decide (B < C) = true := decide_eq_true b2
    have hcase : (decide (j ≤ W) = true ∧ Hid True) ∨ (decide (j ≤ W) = false ∧ (((C : Int) - (B : Int)) == (K : Int)) = true) := by
      rcases b4 with h | ⟨h, k⟩
      · exact Or.inl ⟨decide_eq_true h, trivial⟩
      · exact Or.inr ⟨decide_eq_false h, by simp only [beq_iff_eq]; omega⟩
    have HCS := Lib.hid hcase
    have b6 : ¬ B = 0 := by omega
    clear hcase b4 hB hC hW hK hN hj t1 hn
    go_enter Try.func5, Try.ntmps5
    go_wp2_with ((with_reducible refine wpList_isOp (.box 23 (.tmp 0)) rfl ?_); refine wpList_boxing _ w1 rfl 23 (.tmp 0) rfl (geC n.ge) H rfl (by exact HR.out.sz) (by exact HR.out.al) ?_)
    refine (gawake_any _).mono ?_
    rintro e w2 ⟨rfl, hc2⟩
    have HX2 := Lib.hid (HX1.out.gr hc2)
    have HC2 := Lib.hid (HR.out.ch.trans hc2)
    have hx := HX2.out
    obtain ⟨x0, x1, x2, x3⟩ := hx
    clear hc2
    go_wp2_with fail
    refine (groups_any n.ge _).mono ?_
    rintro e w3 ⟨rfl, hc3⟩
    rw [HG.out, ← HN.out]
    have HX3 := Lib.hid (HX2.out.gr hc3)
    have HC3 := Lib.hid (HC2.out.trans hc3)
    have hx := HX3.out
    obtain ⟨y0, y1, y2, y3⟩ := hx
    clear hc3 x0 x1 x2 x3
    go_wp2_with fail
    refine (members_any n.ge (j : Int) _).mono ?_
    rintro e w4 ⟨G, rfl, _, hc4⟩
    rw [HCN.out, ← HCC.out]
    have HX4 := Lib.hid (HX3.out.gr hc4)
    have HC4 := Lib.hid (HC3.out.trans hc4)
    have hx := HX4.out
    obtain ⟨x0, x1, x2, x3⟩ := hx
    clear hc4 y0 y1 y2 y3
    go_wp2_with fail
    refine (bears_any n.ge (j : Int) _).mono ?_
    rintro e w5 ⟨rfl, hc5⟩
    rw [HB.out, ← HBB.out]
    have HC5 := Lib.hid (HC4.out.trans hc5)
    have hx := HX4.out.gr hc5
    obtain ⟨y0, y1, y2, y3⟩ := hx
    rw [HWW.out] at y0
    rw [HKK.out] at y2
    clear hc5 x0 x1 x2 x3
    rcases HCS.out with ⟨t5, _⟩ | ⟨t5, t6⟩
    · go_wp2
      go_ret
      exact ⟨rfl, HC5.out⟩
    · go_wp2
      go_ret
      exact ⟨rfl, HC5.out⟩
#print axioms geoBears_of
end Go.Proofs.Ytfbkfchibfiemaa
