/-
  geo.Where, walked.
-/
import Derived.Test.YtfbkfchibfiemaaGeoP
import Derived.BigQuiet
namespace Go.Proofs.Ytfbkfchibfiemaa
open Go.RowKit
set_option linter.unusedVariables false
set_option maxRecDepth 100000

set_option maxHeartbeats 1600000 in
set_option maxRecDepth 100000 in
theorem where_off (g : Ge) (a : Int) (h : atG g a = false) (w : World) : Calls Try.prog 8 #[.agg (geC g), .int .i64 a] w (Ans (whV g a) w) := by
  obtain ⟨w1, H, hR⟩ := geR w g
  obtain ⟨x0, x1, x2, x3⟩ := hR.x
  have HR := Lib.hid hR
  have HX := Lib.hid hR.x
  clear hR
  cases t1 : mayG g
  · have HE := Lib.hid (whE_no (a := a) t1)
    go_enter Try.func8, Try.ntmps8
    go_wp2_with ((with_reducible refine wpList_isOp (.box 23 (.tmp 0)) rfl ?_); refine wpList_boxing _ w1 rfl 23 (.tmp 0) rfl (geC g) H rfl (by exact HR.out.sz) (by exact HR.out.al) ?_)
    refine (gmay_any g _).mono ?_
    rintro e w2 ⟨rfl, hc2⟩
    rw [t1]
    go_wp2
    go_ret3
    exact ⟨by rw [HE.out]; rfl, HR.out.ch.trans hc2⟩
  · have HE := Lib.hid (whE_off t1 h)
    obtain ⟨n, hn, rfl⟩ := may_nat t1
    have HN := Lib.hid hn
    have h1 := of_decide_eq_false h
    rw [totG_ok hn] at h1
    obtain ⟨T, hT⟩ : ∃ T, T = n.tot := ⟨_, rfl⟩
    have HT := Lib.hid hT
    rw [← hT] at h1
    have HM := Lib.hid t1
    clear hn hT h t1
    by_cases q : a < 0
    · have t2 : decide (a < 0) = true := decide_eq_true q
      clear h1 q
      go_enter Try.func8, Try.ntmps8
      go_wp2_with ((with_reducible refine wpList_isOp (.box 23 (.tmp 0)) rfl ?_); refine wpList_boxing _ w1 rfl 23 (.tmp 0) rfl (geC n.ge) H rfl (by exact HR.out.sz) (by exact HR.out.al) ?_)
      refine (gmay_any n.ge _).mono ?_
      rintro e w2 ⟨rfl, hc2⟩
      rw [HM.out]
      go_wp2
      go_ret3
      exact ⟨by rw [HE.out]; rfl, HR.out.ch.trans hc2⟩
    · have t2 : decide (a < 0) = false := decide_eq_false q
      have t3 : decide ((T : Int) ≤ a) = true := decide_eq_true (by omega)
      clear h1 q
      go_enter Try.func8, Try.ntmps8
      go_wp2_with ((with_reducible refine wpList_isOp (.box 23 (.tmp 0)) rfl ?_); refine wpList_boxing _ w1 rfl 23 (.tmp 0) rfl (geC n.ge) H rfl (by exact HR.out.sz) (by exact HR.out.al) ?_)
      refine (gmay_any n.ge _).mono ?_
      rintro e w2 ⟨rfl, hc2⟩
      rw [HM.out]
      have hx2 := HX.out.gr hc2
      obtain ⟨y0, y1, y2, y3⟩ := hx2
      go_wp2_with fail
      refine (end_any n HN.out _).mono ?_
      rintro e w3 ⟨rfl, hc3⟩
      rw [← HT.out]
      go_wp2
      go_ret3
      exact ⟨by rw [HE.out]; rfl, (HR.out.ch.trans hc2).trans hc3⟩
#print axioms where_off
set_option maxHeartbeats 3200000 in
set_option maxRecDepth 100000 in
theorem where_at (n : Gn) (hn : n.Ok) (b : Nat) (hb : b < n.tot) (w : World) : Calls Try.prog 8 #[.agg (geC n.ge), .int .i64 (b : Int)] w (Ans (whV n.ge (b : Int)) w) := by
  obtain ⟨w1, H, hR⟩ := geR w n.ge
  obtain ⟨x0, x1, x2, x3⟩ := hR.x
  have HR := Lib.hid hR
  have HX := Lib.hid hR.x
  have HE := Lib.hid (whE_at hn hb)
  have HN := Lib.hid hn
  have HM := Lib.hid (ok_may hn)
  obtain ⟨T, hT⟩ : ∃ T, T = n.tot := ⟨_, rfl⟩
  have HT := Lib.hid hT
  rw [← hT] at hb
  have t2 : decide (T ≤ b) = false := decide_eq_false (by omega)
  have hbb : b ≤ 2564 := by have := hn.tot2; omega
  obtain ⟨I, hI⟩ : ∃ I, I = n.ofA b := ⟨_, rfl⟩
  obtain ⟨J, hJ⟩ : ∃ J, J = n.plA b := ⟨_, rfl⟩
  rw [← hI, ← hJ] at HE
  have HI := Lib.hid hI
  have HJ := Lib.hid hJ
  clear hn hT hb hR hI hJ
  by_cases q1 : b < 4
  · have t3 : decide (b < 4) = true := decide_eq_true q1
    have HV := Lib.hid (show I = 0 ∧ J = b by rw [HI.out, HJ.out]; unfold Gn.ofA Gn.plA; rw [if_pos q1, if_pos q1]; exact ⟨rfl, rfl⟩)
    have t4 : (b : Int) < 4 := by omega
    clear q1
    go_enter Try.func8, Try.ntmps8
    go_wp2_with ((with_reducible refine wpList_isOp (.box 23 (.tmp 0)) rfl ?_); refine wpList_boxing _ w1 rfl 23 (.tmp 0) rfl (geC n.ge) H rfl (by exact HR.out.sz) (by exact HR.out.al) ?_)
    refine (gmay_any n.ge _).mono ?_
    rintro e w2 ⟨rfl, hc2⟩
    rw [HM.out]
    have hx2 := HX.out.gr hc2
    obtain ⟨y0, y1, y2, y3⟩ := hx2
    go_wp2_with fail
    refine (end_any n HN.out _).mono ?_
    rintro e w3 ⟨rfl, hc3⟩
    rw [← HT.out]
    go_wp2
    go_ret3
    exact ⟨by rw [HE.out, HV.out.1, HV.out.2]; rfl, (HR.out.ch.trans hc2).trans hc3⟩
  have t3 : decide (b < 4) = false := decide_eq_false q1
  have t4 : ¬ (b : Int) < 4 := by omega
  obtain ⟨Fsv, hFS⟩ : ∃ Fsv, Fsv = n.fs := ⟨_, rfl⟩
  have HFS := Lib.hid hFS
  have hfb := HN.out.fs2
  rw [← hFS] at hfb
  by_cases q2 : b < Fsv
  · have t5 : decide (b < Fsv) = true := decide_eq_true q2
    obtain ⟨X, hX⟩ : ∃ X, X = b - 4 := ⟨_, rfl⟩
    obtain ⟨W, hW⟩ : ∃ W, W = n.W := ⟨_, rfl⟩
    have HV := Lib.hid (show I = 1 + X % W ∧ J = X / W by rw [HI.out, HJ.out, hX, hW]; unfold Gn.ofA Gn.plA; rw [if_neg q1, if_pos (by rw [← hFS]; exact q2), if_neg q1, if_pos (by rw [← hFS]; exact q2)]; exact ⟨rfl, rfl⟩)
    have HX4 := Lib.hid (show (b : Int) - 4 = (X : Int) by omega)
    have xw : X ≤ 2564 := by omega
    have HW := Lib.hid (show n.ge.wal = (W : Int) by rw [hW]; rfl)
    have hw1 := HN.out.w1
    have hw2 := HN.out.w2
    rw [← hW] at hw1 hw2
    have hdv : X / W ≤ 2564 := Nat.le_trans (Nat.div_le_self X W) xw
    have hmd : X % W < W := Nat.mod_lt _ (by omega)
    have HV1 := Lib.hid (show wrap64 (1 + (X : Int) % (W : Int)) = (I : Int) by
      have e : (X : Int) % (W : Int) = ((X % W : Nat) : Int) := by rw [Int.natCast_emod]
      rw [e, IntWalk.wrap64_in (1 + ((X % W : Nat) : Int)) ⟨by omega, by omega⟩, HV.out.1]
      omega)
    have HV2 := Lib.hid (show wrap64 ((X : Int) / (W : Int)) = (J : Int) by
      have e : (X : Int) / (W : Int) = ((X / W : Nat) : Int) := by rw [Int.natCast_ediv]
      have h0 := Int.natCast_nonneg (X / W)
      rw [e, IntWalk.wrap64_in ((X / W : Nat) : Int) ⟨by omega, by omega⟩, HV.out.2])
    clear q1 q2 hX hW hFS hdv hmd
    go_enter Try.func8, Try.ntmps8
    go_wp2_with ((with_reducible refine wpList_isOp (.box 23 (.tmp 0)) rfl ?_); refine wpList_boxing _ w1 rfl 23 (.tmp 0) rfl (geC n.ge) H rfl (by exact HR.out.sz) (by exact HR.out.al) ?_)
    refine (gmay_any n.ge _).mono ?_
    rintro e w2 ⟨rfl, hc2⟩
    rw [HM.out]
    have hx2 := HX.out.gr hc2
    obtain ⟨y0, y1, y2, y3⟩ := hx2
    go_wp2_with fail
    refine (end_any n HN.out _).mono ?_
    rintro e w3 ⟨rfl, hc3⟩
    rw [← HT.out]
    have hx3 := (GeX.mk y0 y1 y2 y3).gr hc3
    obtain ⟨z0, z1, z2, z3⟩ := hx3
    clear y0 y1 y2 y3
    go_wp2_with fail
    refine (firstShare_any n HN.out _).mono ?_
    rintro e w4 ⟨rfl, hc4⟩
    rw [← HFS.out]
    have hx4 := (GeX.mk z0 z1 z2 z3).gr hc4
    obtain ⟨y0, y1, y2, y3⟩ := hx4
    rw [HW.out] at y0
    clear z0 z1 z2 z3
    go_wp2
    rw [HX4.out]
    go_quiet (fail)
    go_wp2
    go_ret3
    exact ⟨by rw [HE.out, ← HV1.out, ← HV2.out]; rfl, (((HR.out.ch.trans hc2).trans hc3).trans hc4).drewN nq⟩
  · have t5 : decide (b < Fsv) = false := decide_eq_false q2
    obtain ⟨X, hX⟩ : ∃ X, X = b - Fsv := ⟨_, rfl⟩
    obtain ⟨q, hq⟩ : ∃ q, q = n.q := ⟨_, rfl⟩
    obtain ⟨fg, hfg⟩ : ∃ fg, fg = n.fg := ⟨_, rfl⟩
    have hV : I = fg + X / q ∧ J = X % q := by rw [HI.out, HJ.out, hX, hq, hfg]; unfold Gn.ofA Gn.plA; rw [if_neg q1, if_neg (by rw [← hFS]; exact q2), if_neg q1, if_neg (by rw [← hFS]; exact q2), hFS]; exact ⟨rfl, rfl⟩
    have HX4 := Lib.hid (show (b : Int) - (Fsv : Int) = (X : Int) by omega)
    have xw : X ≤ 2564 := by omega
    have hq1 := HN.out.q1
    have hq2 := HN.out.q2
    have hg2 : fg ≤ 513 := by have := HN.out.w2; rw [hfg]; unfold Gn.fg; omega
    rw [← hq] at hq1 hq2
    have HQ := Lib.hid hq
    have HFG := Lib.hid hfg
    have hdv : X / q ≤ 2564 := Nat.le_trans (Nat.div_le_self X q) xw
    have hmd : X % q < q := Nat.mod_lt _ (by omega)
    have HV1 := Lib.hid (show IntKind.i64.wrap ((fg : Int) + IntKind.i64.wrap ((X : Int) / (q : Int))) = (I : Int) by
      have e : (X : Int) / (q : Int) = ((X / q : Nat) : Int) := by rw [Int.natCast_ediv]
      have h0 := Int.natCast_nonneg (X / q)
      rw [e, wrap_in (x := ((X / q : Nat) : Int)) (by omega) (by omega), wrap_in (x := (fg : Int) + ((X / q : Nat) : Int)) (by omega) (by omega), hV.1]
      omega)
    have HV2 := Lib.hid (show (X : Int).tmod (q : Int) = (J : Int) by rw [hV.2, Int.tmod_eq_emod_of_nonneg (Int.natCast_nonneg X), Int.natCast_emod])
    have hz1 : ¬ q = 0 := by omega
    clear q1 q2 hX hq hfg hFS hV hdv hmd
    go_enter Try.func8, Try.ntmps8
    go_wp2_with ((with_reducible refine wpList_isOp (.box 23 (.tmp 0)) rfl ?_); refine wpList_boxing _ w1 rfl 23 (.tmp 0) rfl (geC n.ge) H rfl (by exact HR.out.sz) (by exact HR.out.al) ?_)
    refine (gmay_any n.ge _).mono ?_
    rintro e w2 ⟨rfl, hc2⟩
    rw [HM.out]
    have hx2 := HX.out.gr hc2
    obtain ⟨y0, y1, y2, y3⟩ := hx2
    go_wp2_with fail
    refine (end_any n HN.out _).mono ?_
    rintro e w3 ⟨rfl, hc3⟩
    rw [← HT.out]
    have hx3 := (GeX.mk y0 y1 y2 y3).gr hc3
    obtain ⟨z0, z1, z2, z3⟩ := hx3
    clear y0 y1 y2 y3
    go_wp2_with fail
    refine (firstShare_any n HN.out _).mono ?_
    rintro e w4 ⟨rfl, hc4⟩
    rw [← HFS.out]
    have hx4 := (GeX.mk z0 z1 z2 z3).gr hc4
    obtain ⟨y0, y1, y2, y3⟩ := hx4
    clear z0 z1 z2 z3
    go_wp2_with fail
    refine (firstShare_any n HN.out _).mono ?_
    rintro e w5 ⟨rfl, hc5⟩
    rw [← HFS.out]
    have HX5 := Lib.hid ((GeX.mk y0 y1 y2 y3).gr hc5)
    have hx5 := HX5.out
    obtain ⟨z0, z1, z2, z3⟩ := hx5
    clear y0 y1 y2 y3
    go_wp2
    rw [HX4.out]
    go_region_held3 (fun w' => w'.cell? ⟨H, 0, none⟩ = some (.int .i64 (n.ge).wal) ∧ w'.cell? ⟨H, 1, none⟩ = some (.int .i64 (n.ge).st) ∧ w'.cell? ⟨H, 2, none⟩ = some (.int .i64 (n.ge).k) ∧ w'.cell? ⟨H, 3, none⟩ = some (.int .i64 (n.ge).m)) (first | go_keep | exact ka | exact kb | exact kd)
      (first
        | (go_at_call 24; refine (firstGroup_any n HN.out _).mono ?_; rintro e w6 ⟨rfl, hc6⟩; rw [← HFG.out]; have hx6 := HX5.out.drew.gr hc6; have ka := hx6.all)
        | (go_at_call 25; refine (shares_any n HN.out w6).mono ?_; rintro e w7 ⟨rfl, hc7⟩; rw [← HQ.out]; have hx7 := hx6.gr hc7; have kb := hx7.all)
        | (go_at_call 25; refine (shares_any n HN.out w7).mono ?_; rintro e w8 ⟨rfl, hc8⟩; rw [← HQ.out]; have hx8 := hx7.gr hc8; have kd := hx8.all))
    go_wp2
    go_ret3
    exact ⟨by rw [HE.out, ← HV1.out, ← HV2.out]; rfl, (((((((HR.out.ch.trans hc2).trans hc3).trans hc4).trans hc5).drew).trans hc6).trans hc7).trans hc8⟩
#print axioms where_at
theorem where_any (g : Ge) (a : Int) (w : World) : Calls Try.prog 8 #[.agg (geC g), .int .i64 a] w (Ans (whV g a) w) := by
  cases t : atG g a
  · exact where_off g a t w
  · have hm : mayG g = true := by
      cases m : mayG g
      · have := of_decide_eq_true t
        rw [totG_no m] at this
        omega
      · rfl
    obtain ⟨n, hn, rfl⟩ := may_nat hm
    obtain ⟨b, rfl, hb⟩ := atG_nat hn t
    exact where_at n hn b hb w
#print axioms where_any
end Go.Proofs.Ytfbkfchibfiemaa
