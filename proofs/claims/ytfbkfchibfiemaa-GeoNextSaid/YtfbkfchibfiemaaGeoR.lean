/-
  The document's May, Groups, Bears, Ints (quartermasterref08), walked.
-/
import Derived.Test.YtfbkfchibfiemaaGeoP
import Derived.Test.YtfbkfchibfiemaaIRw
namespace Go.Proofs.Ytfbkfchibfiemaa
open Go.RowKit
set_option linter.unusedVariables false
set_option maxRecDepth 100000

/-! ### May -/
set_option maxHeartbeats 1600000 in
theorem rmay_any (g : Ge) (w : World) : Calls Try.prog 13 #[.agg (geC g)] w (Ans (.bool (mayG g)) w) := by
  obtain ⟨w1, H, hR⟩ := geR w g
  obtain ⟨x0, x1, x2, x3⟩ := hR.x
  have HR := Lib.hid hR
  clear hR
  cases t1 : mayG g
  · obtain ⟨a, b, c, d⟩ := g
    simp only at x0 x1 x2 x3
    have hcase : (a < 8 ∨ (8 ≤ a ∧ 512 < a)) ∨ ((8 ≤ a ∧ a ≤ 512) ∧ (b < 1 ∨ (1 ≤ b ∧ 32 < b))) ∨ ((8 ≤ a ∧ a ≤ 512) ∧ (1 ≤ b ∧ b ≤ 32) ∧ (c < 1 ∨ (1 ≤ c ∧ 16 < c))) ∨ ((8 ≤ a ∧ a ≤ 512) ∧ (1 ≤ b ∧ b ≤ 32) ∧ (1 ≤ c ∧ c ≤ 16) ∧ (d < 1 ∨ (1 ≤ d ∧ 8 < d))) := by
      have h2 : ¬ ((8 ≤ a ∧ a ≤ 512) ∧ (1 ≤ b ∧ b ≤ 32) ∧ (1 ≤ c ∧ c ≤ 16) ∧ (1 ≤ d ∧ d ≤ 8)) := fun q => by
        have : mayG ⟨a, b, c, d⟩ = true := by
          rw [mayG_eq]
          simp only [Bool.and_eq_true, inB_true]
          exact q
        rw [t1] at this
        cases this
      omega
    have HC := Lib.hid hcase
    clear hcase t1
    rcases HC.out with (h | ⟨h, k⟩) | ⟨⟨p1, p2⟩, (h | ⟨h, k⟩)⟩ | ⟨⟨p1, p2⟩, ⟨p3, p4⟩, (h | ⟨h, k⟩)⟩ | ⟨⟨p1, p2⟩, ⟨p3, p4⟩, ⟨p5, p6⟩, (h | ⟨h, k⟩)⟩
    all_goals (
      clear HC
      go_enter Try.func13, Try.ntmps13
      go_wp2_with ((with_reducible refine wpList_isOp (.box 23 (.tmp 0)) rfl ?_); refine wpList_boxing _ w1 rfl 23 (.tmp 0) rfl (geC ⟨a, b, c, d⟩) H rfl (by exact HR.out.sz) (by exact HR.out.al) ?_)
      go_ret
      exact ⟨rfl, HR.out.ch⟩)
  · obtain ⟨n, hn, rfl⟩ := may_nat t1
    obtain ⟨⟨p1, p2⟩, ⟨p3, p4⟩, ⟨p5, p6⟩, ⟨p7, p8⟩⟩ := may_parts t1
    have HD := Lib.hid (show decide (wrap64 (4 + 2 * n.ge.wal + wrap64 (2 * n.ge.st * (n.ge.k + n.ge.m))) ≤ 4096) = true by
      have b1 := hn.tot2
      have b2 := hn.t2
      have e0 : n.ge.st * (n.ge.k + n.ge.m) = ((n.S * n.q : Nat) : Int) := by unfold Gn.q; rw [Int.natCast_mul, Int.natCast_add]; rfl
      rw [Int.mul_assoc, e0, IntWalk.wrap64_in (2 * ((n.S * n.q : Nat) : Int)) ⟨by omega, by omega⟩, IntWalk.wrap64_in _ ⟨by omega, by omega⟩]
      exact decide_eq_true (by omega))
    clear hn t1
    go_enter Try.func13, Try.ntmps13
    go_wp2_with ((with_reducible refine wpList_isOp (.box 23 (.tmp 0)) rfl ?_); refine wpList_boxing _ w1 rfl 23 (.tmp 0) rfl (geC n.ge) H rfl (by exact HR.out.sz) (by exact HR.out.al) ?_)
    go_ret
    exact ⟨ret_bool HD.out, HR.out.ch⟩
#print axioms rmay_any

/-! ### Groups, Bears -/
set_option maxHeartbeats 800000 in
theorem rgroups_any (g : Ge) (w : World) : Calls Try.prog 18 #[.agg (geC g)] w (Ans (.int .i64 (grpG g)) w) := by
  obtain ⟨w1, H, hR⟩ := geR w g
  obtain ⟨x0, x1, x2, x3⟩ := hR.x
  have HR := Lib.hid hR
  have HX := Lib.hid hR.x
  clear hR
  cases t1 : mayG g
  · have HE := Lib.hid (grpG_no t1)
    go_enter Try.func18, Try.ntmps18
    go_wp2_with (first | ((with_reducible refine wpList_isOp (.box 23 (.tmp 0)) rfl ?_); refine wpList_boxing _ w1 rfl 23 (.tmp 0) rfl (geC g) H rfl (by exact HR.out.sz) (by exact HR.out.al) ?_) | (go_at_call 13; refine (rmay_any g _).mono ?_; rintro e w2 ⟨rfl, hc2⟩))
    go_ret
    exact ⟨ret_int HE.out.symm, HR.out.ch.trans hc2⟩
  · obtain ⟨n, hn, rfl⟩ := may_nat t1
    obtain ⟨⟨p1, p2⟩, ⟨p3, p4⟩, _, _⟩ := may_parts t1
    have HE := Lib.hid (show 1 + n.ge.wal + 2 * n.ge.st = grpG n.ge by unfold grpG; rw [t1, if_pos rfl])
    clear hn
    go_enter Try.func18, Try.ntmps18
    go_wp2_with (first | ((with_reducible refine wpList_isOp (.box 23 (.tmp 0)) rfl ?_); refine wpList_boxing _ w1 rfl 23 (.tmp 0) rfl (geC n.ge) H rfl (by exact HR.out.sz) (by exact HR.out.al) ?_) | (go_at_call 13; refine (rmay_any n.ge _).mono ?_; rintro e w2 ⟨rfl, hc2⟩; have hx2 := HX.out.gr hc2; obtain ⟨y0, y1, y2, y3⟩ := hx2))
    go_ret
    exact ⟨ret_int HE.out, HR.out.ch.trans hc2⟩
#print axioms rgroups_any
set_option maxHeartbeats 1600000 in
theorem rbears_any (g : Ge) (i : Int) (w : World) : Calls Try.prog 21 #[.agg (geC g), .int .i64 i] w (Ans (.int .i64 (brsG g i : Int)) w) := by
  obtain ⟨w1, H, hR⟩ := geR w g
  obtain ⟨x0, x1, x2, x3⟩ := hR.x
  have HR := Lib.hid hR
  have HX := Lib.hid hR.x
  clear hR
  cases t1 : inG g i
  · have h1 := of_decide_eq_false t1
    have HE := Lib.hid (inG_no t1).2
    obtain ⟨N, hN⟩ : ∃ N, N = grpG g := ⟨_, rfl⟩
    have HN := Lib.hid hN
    rw [← hN] at h1
    clear hN t1
    by_cases q : i < 0
    · have t2 : decide (i < 0) = true := decide_eq_true q
      clear h1 q
      go_enter Try.func21, Try.ntmps21
      go_wp2_with (first | ((with_reducible refine wpList_isOp (.box 23 (.tmp 0)) rfl ?_); refine wpList_boxing _ w1 rfl 23 (.tmp 0) rfl (geC g) H rfl (by exact HR.out.sz) (by exact HR.out.al) ?_) | (go_at_call 18; refine (rgroups_any g _).mono ?_; rintro e w2 ⟨rfl, hc2⟩))
      go_ret
      exact ⟨ret_int (by rw [HE.out]; rfl), HR.out.ch.trans hc2⟩
    · have t2 : decide (i < 0) = false := decide_eq_false q
      have t3 : decide (N ≤ i) = true := decide_eq_true (by omega)
      clear h1 q
      go_enter Try.func21, Try.ntmps21
      go_wp2_with (first | ((with_reducible refine wpList_isOp (.box 23 (.tmp 0)) rfl ?_); refine wpList_boxing _ w1 rfl 23 (.tmp 0) rfl (geC g) H rfl (by exact HR.out.sz) (by exact HR.out.al) ?_) | (go_at_call 18; refine (rgroups_any g _).mono ?_; rintro e w2 ⟨rfl, hc2⟩; rw [← HN.out]))
      go_ret
      exact ⟨ret_int (by rw [HE.out]; rfl), HR.out.ch.trans hc2⟩
  · obtain ⟨n, j, hn, rfl, rfl, hj⟩ := inG_nat t1
    have HN := Lib.hid (grpG_ok hn)
    have HB := Lib.hid (brsG_ok hn hj)
    have hw : n.ge.wal = (n.W : Int) := rfl
    have hm : n.ge.m = (n.M : Int) := rfl
    obtain ⟨G, hG⟩ : ∃ G, G = n.grp := ⟨_, rfl⟩
    have HGG := Lib.hid hG
    have hbr : n.brs j = if j = 0 then 3 else if j < n.fg then 1 else n.M := rfl
    rw [← hG] at hj
    have t2 : decide (G ≤ j) = false := decide_eq_false (by omega)
    have hfg : n.fg = 1 + n.W := rfl
    clear t1 hG hj hn
    by_cases q0 : j = 0
    · subst q0
      have HBR := Lib.hid (show n.brs 0 = 3 from rfl)
      have t3 := of_decide_eq_false t2
      have t4 : ¬ G = 0 := by omega
      clear hbr hfg hw hm t2 t3
      go_enter Try.func21, Try.ntmps21
      go_wp2_with (first | ((with_reducible refine wpList_isOp (.box 23 (.tmp 0)) rfl ?_); refine wpList_boxing _ w1 rfl 23 (.tmp 0) rfl (geC n.ge) H rfl (by exact HR.out.sz) (by exact HR.out.al) ?_) | (go_at_call 18; refine (rgroups_any n.ge _).mono ?_; rintro e w2 ⟨rfl, hc2⟩; rw [HN.out, ← HGG.out]))
      go_ret
      exact ⟨ret_int (by rw [HB.out, HBR.out]; rfl), HR.out.ch.trans hc2⟩
    rw [if_neg q0] at hbr
    have t4 : ((j : Int) == 0) = false := by simpa using q0
    by_cases q1 : j < n.fg
    · rw [if_pos q1] at hbr
      have HBR := Lib.hid hbr
      obtain ⟨V, hV⟩ : ∃ V, V = n.W := ⟨_, rfl⟩
      rw [← hV] at hfg hw
      have HW := Lib.hid hw
      have t3 : decide (j ≤ V) = true := decide_eq_true (by omega)
      clear hbr hfg hw hm q0 q1 hV
      go_enter Try.func21, Try.ntmps21
      go_wp2_with (first | ((with_reducible refine wpList_isOp (.box 23 (.tmp 0)) rfl ?_); refine wpList_boxing _ w1 rfl 23 (.tmp 0) rfl (geC n.ge) H rfl (by exact HR.out.sz) (by exact HR.out.al) ?_) | (go_at_call 18; refine (rgroups_any n.ge _).mono ?_; rintro e w2 ⟨rfl, hc2⟩; rw [HN.out, ← HGG.out]; have hx2 := HX.out.gr hc2; obtain ⟨y0, y1, y2, y3⟩ := hx2; rw [HW.out] at y0))
      go_ret
      exact ⟨ret_int (by rw [HB.out, HBR.out]; rfl), HR.out.ch.trans hc2⟩
    · rw [if_neg q1] at hbr
      have HBR := Lib.hid hbr
      obtain ⟨V, hV⟩ : ∃ V, V = n.W := ⟨_, rfl⟩
      rw [← hV] at hfg hw
      have HW := Lib.hid hw
      have HM := Lib.hid hm
      have t3 : decide (j ≤ V) = false := decide_eq_false (by omega)
      clear hbr hfg hw hm q0 q1 hV
      go_enter Try.func21, Try.ntmps21
      go_wp2_with (first | ((with_reducible refine wpList_isOp (.box 23 (.tmp 0)) rfl ?_); refine wpList_boxing _ w1 rfl 23 (.tmp 0) rfl (geC n.ge) H rfl (by exact HR.out.sz) (by exact HR.out.al) ?_) | (go_at_call 18; refine (rgroups_any n.ge _).mono ?_; rintro e w2 ⟨rfl, hc2⟩; rw [HN.out, ← HGG.out]; have hx2 := HX.out.gr hc2; obtain ⟨y0, y1, y2, y3⟩ := hx2; rw [HW.out] at y0))
      go_ret
      exact ⟨ret_int (by rw [HB.out, HBR.out, HM.out]), HR.out.ch.trans hc2⟩
#print axioms rbears_any

/-! ### Ints -/
def eqI (n m : Nat) (q r : Nat → Int) : Bool := decide (n = m ∧ ∀ c, c < n → q c = r c)
theorem eqI_self (n : Nat) (q : Nat → Int) : eqI n n q q = true := decide_eq_true ⟨rfl, fun _ _ => rfl⟩
set_option maxHeartbeats 800000 in
set_option maxRecDepth 100000 in
theorem ints_any (A B : Option Addr) (n m C D : Nat) (z y : Nat → Int) (w : World) (h : IntV w (.slice A n C) n z) (h2 : IntV w (.slice B m D) m y) : Calls Try.prog 10 #[.slice A n C, .slice B m D] w (Qu (.bool (eqI n m z y)) w) := by
  obtain ⟨_, _, _, hl, _⟩ := id h
  have hl1 := hl.1
  obtain ⟨_, _, _, hm, _⟩ := id h2
  have hm1 := hm.1
  clear hl hm
  by_cases e : n = m
  · subst e
    have t1 : ((n : Int) != (n : Int)) = false := by simp
    have HV := Lib.hid h
    have HV2 := Lib.hid h2
    clear h h2
    go_enter Try.func10, Try.ntmps10
    go_wp2
    go_loopw [5] (fun i wr => ∃ k : Nat, k ≤ n ∧ i = .int .i64 k ∧ (∃ d, wr = w.drewN d) ∧ Hid (∀ c, c < k → z c = y c)) (fun i _ => n - (intOf i).toNat)
    case atStart => exact ⟨0, Nat.zero_le _, rfl, ⟨0, rfl⟩, fun c hc => absurd hc (Nat.not_lt_zero c)⟩
    case round =>
      obtain ⟨k, hk, rfl, ⟨d, rfl⟩, HK⟩ := hrel
      by_cases hlt : k < n
      · obtain ⟨b, o, rfl, hc⟩ := HV.out.at (by omega)
        obtain ⟨b2, o2, rfl, hc2⟩ := HV2.out.at (by omega)
        have c1 := hc k hlt
        have c2 := hc2 k hlt
        have i1 : (0 : Int) ≤ (k : Int) := Int.natCast_nonneg _
        have i2 : (k : Int) < (n : Int) := by omega
        clear hc hc2
        by_cases q : z k = y k
        · have t2 : ((z k : Int) != (y k : Int)) = false := by simp [q]
          have HS : Hid (∀ c, c < k + 1 → z c = y c) := fun c hc => by
            by_cases e : c = k
            · rw [e]; exact q
            · exact HK c (by omega)
          clear q
          go_wp2
          go_quiet (fail)
          go_wp2
          go_roundw
          case rel => exact ⟨k + 1, by omega, by go_num, ⟨_, rfl⟩, HS⟩
          case measure => simp [intOf]; omega
        · have t2 : ((z k : Int) != (y k : Int)) = true := by simp; omega
          have HS := Lib.hid (show eqI n n z y = false from decide_eq_false fun h => q (h.2 k hlt))
          clear q
          go_wp2
          go_quiet (fail)
          go_wp2
          go_ret
          exact ⟨ret_bool HS.out.symm, _, World.drewN_drewN _ _ _⟩
      · obtain rfl : k = n := by omega
        have HS := Lib.hid (show eqI k k z y = true from decide_eq_true ⟨rfl, HK.out⟩)
        go_wp2
        go_ret
        exact ⟨ret_bool HS.out.symm, _, rfl⟩
  · have t1 : ((n : Int) != (m : Int)) = true := by simp; omega
    have HS := Lib.hid (show eqI n m z y = false from decide_eq_false fun h => e h.1)
    clear e h h2
    go_enter Try.func10, Try.ntmps10
    go_wp2
    go_ret
    exact ⟨ret_bool HS.out.symm, 0, rfl⟩
#print axioms ints_any
end Go.Proofs.Ytfbkfchibfiemaa
