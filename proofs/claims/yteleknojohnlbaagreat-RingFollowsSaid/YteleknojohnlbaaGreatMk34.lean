/-
  The document's May and Sector (quartermasterref11), walked.
-/
import Derived.Test.YteleknojohnlbaaGreatMk33
import Derived.Test.YteleknojohnlbaaGreatMk22
import Derived.Test.YteleknojohnlbaaGreatMk14
import Derived.Deep.RegionHeld3
namespace Go.Proofs.YteleknojohnlbaaGreat
open Go.RowKit
set_option linter.unusedVariables false
set_option maxRecDepth 100000
set_option linter.unusedSimpArgs false
set_option maxHeartbeats 6400000 in
theorem r11may_any (p : Pn) (A : Option Addr) (C : Nat) (w : World) (hl : p.B.length ≤ 140737488351232) : Calls Tryz.prog 19 #[.agg (pcC p (.slice A p.B.length C))] w (Ans (.bool (mayP p)) w) := by
  obtain ⟨w1, H, hR⟩ := boxR w (pcC p (.slice A p.B.length C)) 26
  obtain ⟨x0, x1, x2, x3, x4, x5, x6⟩ := pc_x hR.cx
  have HP := Lib.hid (show mayP p = (wordsP p && (decide (p.fr ≤ p.seq) && (inB p.ofn 1 64 && (inB p.ix 0 (p.ofn - 1) && decide (p.B.length ≤ 200))))) from rfl)
  have HW := Lib.hid (show wordsP p = (wordS p.seq && (wordS p.ep && (wordS p.fr && wordS p.ch))) from rfl)
  have HR := Lib.hid hR
  obtain ⟨n, hn⟩ : ∃ n, n = p.B.length := ⟨_, rfl⟩
  rw [← hn] at HP x6 hl HR ⊢
  clear hR hn
  cases t0 : wordS p.seq
  · have HE := Lib.hid (show mayP p = false by rw [HP.out, HW.out, t0]; rfl)
    clear HP HW
    go_enter Tryz.func19, Tryz.ntmps19
    go_wp2_with (first | ((with_reducible refine wpList_isOp (.box 26 (.tmp 0)) rfl ?_); refine wpList_boxing _ w1 rfl 26 (.tmp 0) rfl (pcC p (.slice A n C)) H rfl (by exact HR.out.sz) (by exact HR.out.al) ?_) | (go_at_call 44; refine (w11_any _ _).mono ?_; rintro e w' ⟨rfl, rfl⟩))
    go_ret
    exact ⟨ret_bool HE.out.symm, HR.out.ch⟩
  cases t1 : wordS p.ep
  · have HE := Lib.hid (show mayP p = false by rw [HP.out, HW.out, t0, t1]; rfl)
    clear HP HW
    go_enter Tryz.func19, Tryz.ntmps19
    go_wp2_with (first | ((with_reducible refine wpList_isOp (.box 26 (.tmp 0)) rfl ?_); refine wpList_boxing _ w1 rfl 26 (.tmp 0) rfl (pcC p (.slice A n C)) H rfl (by exact HR.out.sz) (by exact HR.out.al) ?_) | (go_at_call 44; refine (w11_any _ _).mono ?_; rintro e w' ⟨rfl, rfl⟩))
    go_ret
    exact ⟨ret_bool HE.out.symm, HR.out.ch⟩
  cases t2 : wordS p.fr
  · have HE := Lib.hid (show mayP p = false by rw [HP.out, HW.out, t0, t1, t2]; rfl)
    clear HP HW
    go_enter Tryz.func19, Tryz.ntmps19
    go_wp2_with (first | ((with_reducible refine wpList_isOp (.box 26 (.tmp 0)) rfl ?_); refine wpList_boxing _ w1 rfl 26 (.tmp 0) rfl (pcC p (.slice A n C)) H rfl (by exact HR.out.sz) (by exact HR.out.al) ?_) | (go_at_call 44; refine (w11_any _ _).mono ?_; rintro e w' ⟨rfl, rfl⟩))
    go_ret
    exact ⟨ret_bool HE.out.symm, HR.out.ch⟩
  cases t3 : wordS p.ch
  · have HE := Lib.hid (show mayP p = false by rw [HP.out, HW.out, t0, t1, t2, t3]; rfl)
    clear HP HW
    go_enter Tryz.func19, Tryz.ntmps19
    go_wp2_with (first | ((with_reducible refine wpList_isOp (.box 26 (.tmp 0)) rfl ?_); refine wpList_boxing _ w1 rfl 26 (.tmp 0) rfl (pcC p (.slice A n C)) H rfl (by exact HR.out.sz) (by exact HR.out.al) ?_) | (go_at_call 44; refine (w11_any _ _).mono ?_; rintro e w' ⟨rfl, rfl⟩))
    go_ret
    exact ⟨ret_bool HE.out.symm, HR.out.ch⟩
  have HWT := Lib.hid (show wordsP p = true by rw [HW.out, t0, t1, t2, t3]; rfl)
  by_cases q2 : p.fr ≤ p.seq
  case neg =>
    have t4 : decide (p.fr ≤ p.seq) = false := decide_eq_false q2
    have HE := Lib.hid (show mayP p = false by rw [HP.out, HWT.out, t4]; rfl)
    clear HP HW
    go_enter Tryz.func19, Tryz.ntmps19
    go_wp2_with (first | ((with_reducible refine wpList_isOp (.box 26 (.tmp 0)) rfl ?_); refine wpList_boxing _ w1 rfl 26 (.tmp 0) rfl (pcC p (.slice A n C)) H rfl (by exact HR.out.sz) (by exact HR.out.al) ?_) | (go_at_call 44; refine (w11_any _ _).mono ?_; rintro e w' ⟨rfl, rfl⟩))
    go_ret
    exact ⟨ret_bool HE.out.symm, HR.out.ch⟩
  have t4 : decide (p.fr ≤ p.seq) = true := decide_eq_true q2
  by_cases q3 : 1 ≤ p.ofn
  case neg =>
    have t5 : decide (1 ≤ p.ofn) = false := decide_eq_false q3
    have HE := Lib.hid (show mayP p = false by rw [HP.out, HWT.out, t4, show inB p.ofn 1 64 = false from decide_eq_false fun q => q3 q.1]; rfl)
    clear HP HW
    go_enter Tryz.func19, Tryz.ntmps19
    go_wp2_with (first | ((with_reducible refine wpList_isOp (.box 26 (.tmp 0)) rfl ?_); refine wpList_boxing _ w1 rfl 26 (.tmp 0) rfl (pcC p (.slice A n C)) H rfl (by exact HR.out.sz) (by exact HR.out.al) ?_) | (go_at_call 44; refine (w11_any _ _).mono ?_; rintro e w' ⟨rfl, rfl⟩))
    go_ret
    exact ⟨ret_bool HE.out.symm, HR.out.ch⟩
  have t5 : decide (1 ≤ p.ofn) = true := decide_eq_true q3
  by_cases q4 : p.ofn ≤ 64
  case neg =>
    have t6 : decide (p.ofn ≤ 64) = false := decide_eq_false q4
    have HE := Lib.hid (show mayP p = false by rw [HP.out, HWT.out, t4, show inB p.ofn 1 64 = false from decide_eq_false fun q => q4 q.2]; rfl)
    clear HP HW
    go_enter Tryz.func19, Tryz.ntmps19
    go_wp2_with (first | ((with_reducible refine wpList_isOp (.box 26 (.tmp 0)) rfl ?_); refine wpList_boxing _ w1 rfl 26 (.tmp 0) rfl (pcC p (.slice A n C)) H rfl (by exact HR.out.sz) (by exact HR.out.al) ?_) | (go_at_call 44; refine (w11_any _ _).mono ?_; rintro e w' ⟨rfl, rfl⟩))
    go_ret
    exact ⟨ret_bool HE.out.symm, HR.out.ch⟩
  have t6 : decide (p.ofn ≤ 64) = true := decide_eq_true q4
  have HQ4 := Lib.hid (show inB p.ofn 1 64 = true from inB_true.2 ⟨q3, q4⟩)
  by_cases q5 : 0 ≤ p.ix
  case neg =>
    have t7 : decide (0 ≤ p.ix) = false := decide_eq_false q5
    have HE := Lib.hid (show mayP p = false by rw [HP.out, HWT.out, t4, HQ4.out, show inB p.ix 0 (p.ofn - 1) = false from decide_eq_false fun q => q5 q.1]; rfl)
    clear HP HW
    go_enter Tryz.func19, Tryz.ntmps19
    go_wp2_with (first | ((with_reducible refine wpList_isOp (.box 26 (.tmp 0)) rfl ?_); refine wpList_boxing _ w1 rfl 26 (.tmp 0) rfl (pcC p (.slice A n C)) H rfl (by exact HR.out.sz) (by exact HR.out.al) ?_) | (go_at_call 44; refine (w11_any _ _).mono ?_; rintro e w' ⟨rfl, rfl⟩))
    go_ret
    exact ⟨ret_bool HE.out.symm, HR.out.ch⟩
  have t7 : decide (0 ≤ p.ix) = true := decide_eq_true q5
  by_cases q6 : p.ix < p.ofn
  case neg =>
    have t8 : decide (p.ix < p.ofn) = false := decide_eq_false q6
    have HE := Lib.hid (show mayP p = false by rw [HP.out, HWT.out, t4, HQ4.out, show inB p.ix 0 (p.ofn - 1) = false from decide_eq_false fun q => q6 (by omega)]; rfl)
    clear HP HW
    go_enter Tryz.func19, Tryz.ntmps19
    go_wp2_with (first | ((with_reducible refine wpList_isOp (.box 26 (.tmp 0)) rfl ?_); refine wpList_boxing _ w1 rfl 26 (.tmp 0) rfl (pcC p (.slice A n C)) H rfl (by exact HR.out.sz) (by exact HR.out.al) ?_) | (go_at_call 44; refine (w11_any _ _).mono ?_; rintro e w' ⟨rfl, rfl⟩))
    go_ret
    exact ⟨ret_bool HE.out.symm, HR.out.ch⟩
  have t8 : decide (p.ix < p.ofn) = true := decide_eq_true q6
  have HQ6 := Lib.hid (show inB p.ix 0 (p.ofn - 1) = true from inB_true.2 ⟨q5, by omega⟩)
  by_cases q7 : n ≤ 200
  case neg =>
    have t9 : decide ((n : Int) ≤ 200) = false := by simp; omega
    have HE := Lib.hid (show mayP p = false by rw [HP.out, HWT.out, t4, HQ4.out, HQ6.out, decide_eq_false q7]; rfl)
    clear HP HW
    go_enter Tryz.func19, Tryz.ntmps19
    go_wp2_with (first | ((with_reducible refine wpList_isOp (.box 26 (.tmp 0)) rfl ?_); refine wpList_boxing _ w1 rfl 26 (.tmp 0) rfl (pcC p (.slice A n C)) H rfl (by exact HR.out.sz) (by exact HR.out.al) ?_) | (go_at_call 44; refine (w11_any _ _).mono ?_; rintro e w' ⟨rfl, rfl⟩))
    go_ret
    exact ⟨ret_bool HE.out.symm, HR.out.ch⟩
  have t9 : decide ((n : Int) ≤ 200) = true := by simp; omega
  have HE := Lib.hid (show mayP p = true by rw [HP.out, HWT.out, t4, HQ4.out, HQ6.out, decide_eq_true q7]; rfl)
  clear HP HW
  go_enter Tryz.func19, Tryz.ntmps19
  go_wp2_with (first | ((with_reducible refine wpList_isOp (.box 26 (.tmp 0)) rfl ?_); refine wpList_boxing _ w1 rfl 26 (.tmp 0) rfl (pcC p (.slice A n C)) H rfl (by exact HR.out.sz) (by exact HR.out.al) ?_) | (go_at_call 44; refine (w11_any _ _).mono ?_; rintro e w' ⟨rfl, rfl⟩))
  go_ret
  exact ⟨ret_bool HE.out.symm, HR.out.ch⟩
theorem bodyR_split (p : Pn) : ∀ j, j ≤ 4 → bodyR p = prefR p j ++ restR p j
  | 0, _ => (restR_all p).symm
  | j + 1, h => by rw [bodyR_split p j (by omega), restR_next p (by omega), prefR_snoc, List.append_assoc]
theorem bodyR_next (p : Pn) {j : Nat} (h : j < 4) (c : Nat) (hc : c < (Cod.digs (numR p j).toNat).length) : Cod.litZ (bodyR p) ((prefR p j).length + c) = Cod.litZ (Cod.digs (numR p j).toNat) c := by
  rw [bodyR_split p j (by omega), flat_right, restR_next p h, flat_left hc]
theorem bodyR_bytes (p : Pn) (c : Nat) : Cod.litZ (bodyR p) ((prefR p 4).length + c) = Cod.litZ (byR p) c := flat_right _ _ _
theorem byR_b {p : Pn} (h : ∀ x ∈ p.B, x < 256) : ∀ c ∈ byR p, c < 256 := fun c hc => by
  unfold byR at hc
  rcases List.mem_append.1 hc with q | q
  · exact Cod.digs_b _ c q
  · exact h c q
theorem num_nat {p : Pn} (h : mayP p = true) (j : Nat) : numR p j = (((numR p j).toNat : Nat) : Int) := by have := numR_in h j; omega
theorem out_new {w w' : World} {p : Pn} {u : Value} (h : w'.ownsRow w.heap.size /-t-/5 1 u (Cod.digs (numR p 0).toNat).length (bytesL (Cod.digs (numR p 0).toNat).length (Cod.litZ (Cod.digs (numR p 0).toNat)))) (hc : Ch (fun _ => False) w w') : OutSt w (Cod.litZ (bodyR p)) u (prefR p 1).length w' := by
  have e : (prefR p 1).length = (Cod.digs (numR p 0).toNat).length := by rw [prefR_snoc, List.length_append]; show 0 + _ = _; omega
  refine ⟨?_, hc⟩
  rw [e, bytesL_congr (y := Cod.litZ (Cod.digs (numR p 0).toNat)) fun c hcc => by
    have := bodyR_next p (show 0 < 4 by omega) c hcc
    rw [show (prefR p 0).length = 0 from rfl, Nat.zero_add] at this
    exact this]
  exact h
set_option maxHeartbeats 12800000 in
theorem r11sec_any (vol : Int) (g : Ge) (mir : Int) (p : Pn) (V : Value) (w : World) (hv : N64 vol) (h : PcIs w p V) : Calls Tryz.prog 13 #[.int .i64 vol, .agg (geC g), .int .i64 mir, .agg (pcC p V)] w (SecRPost vol g mir p w) := by
  obtain ⟨A, C, hV, hVl, _⟩ := id h.row
  subst hV
  obtain ⟨w0, HG, hRG⟩ := geR w g
  obtain ⟨w1, H, hR⟩ := boxR w0 (pcC p (.slice A p.B.length C)) 26
  have HLp := Lib.hid (load_pc hR.cx)
  have HM := Lib.hid (r11may_any p A C w1 hVl.1)
  have HCH := Lib.hid (hRG.ch.trans hR.ch)
  have HPX := Lib.hid (pc_x hR.cx)
  have HGX := Lib.hid (hRG.x.gr hR.ch)
  have HIS := Lib.hid ((h.gr hRG.ch).gr hR.ch)
  have HR := Lib.hid hR
  have HRG := Lib.hid hRG
  have HVL := Lib.hid hv
  clear hR hRG h hv hVl
  cases hm : mayP p
  · have HN := Lib.hid (rok_may (vol := vol) (g := g) (mir := mir) hm)
    have HQ := Lib.hid (show True from trivial)
    rw [hm] at HM
    clear hm
    go_enter Tryz.func13, Tryz.ntmps13
    go_wp2_with (first | ((with_reducible refine wpList_isOp (.box 23 (.tmp 1)) rfl ?_); refine wpList_boxing _ w0 rfl 23 (.tmp 1) rfl (geC g) HG rfl (by exact HRG.out.sz) (by exact HRG.out.al) ?_) | ((with_reducible refine wpList_isOp (.box 26 (.tmp 3)) rfl ?_); refine wpList_boxing _ w1 rfl 26 (.tmp 3) rfl (pcC p (.slice A p.B.length C)) H rfl (by exact HR.out.sz) (by exact HR.out.al) ?_) | ((with_reducible refine wpList_isOp (.load 26 (.tmp 7)) rfl ?_); refine wpList_loading _ rfl 26 (.tmp 7) rfl (.agg (pcC p (.slice A p.B.length C))) ⟨H, 0, none⟩ rfl (by exact HLp.out) ?_) | (go_at_call 19; refine HM.out.mono ?_; rintro e w2 ⟨rfl, hc2⟩; obtain ⟨x0, x1, x2, x3⟩ := HGX.out.gr hc2) | (go_at_call 38; refine (rgmay_any g _).mono ?_; rintro e w3 ⟨rfl, hc3⟩; first | rw [HQ.out] | skip) | (go_at_call 44; refine (w11_any _ _).mono ?_; rintro e w' ⟨rfl, rfl⟩))
    go_ret2
    exact secRPost_no HN.out ((HCH.out.trans hc2).trans hc3)
  rw [hm] at HM
  cases hg : mayG g
  · have HN := Lib.hid (rok_geo (vol := vol) (mir := mir) (p := p) hg)
    have HQ := Lib.hid hg
    clear hm hg
    go_enter Tryz.func13, Tryz.ntmps13
    go_wp2_with (first | ((with_reducible refine wpList_isOp (.box 23 (.tmp 1)) rfl ?_); refine wpList_boxing _ w0 rfl 23 (.tmp 1) rfl (geC g) HG rfl (by exact HRG.out.sz) (by exact HRG.out.al) ?_) | ((with_reducible refine wpList_isOp (.box 26 (.tmp 3)) rfl ?_); refine wpList_boxing _ w1 rfl 26 (.tmp 3) rfl (pcC p (.slice A p.B.length C)) H rfl (by exact HR.out.sz) (by exact HR.out.al) ?_) | ((with_reducible refine wpList_isOp (.load 26 (.tmp 7)) rfl ?_); refine wpList_loading _ rfl 26 (.tmp 7) rfl (.agg (pcC p (.slice A p.B.length C))) ⟨H, 0, none⟩ rfl (by exact HLp.out) ?_) | (go_at_call 19; refine HM.out.mono ?_; rintro e w2 ⟨rfl, hc2⟩; obtain ⟨x0, x1, x2, x3⟩ := HGX.out.gr hc2) | (go_at_call 38; refine (rgmay_any g _).mono ?_; rintro e w3 ⟨rfl, hc3⟩; first | rw [HQ.out] | skip) | (go_at_call 44; refine (w11_any _ _).mono ?_; rintro e w' ⟨rfl, rfl⟩))
    go_ret2
    exact secRPost_no HN.out ((HCH.out.trans hc2).trans hc3)
  cases tv : wordS vol
  · have HN := Lib.hid (show rokB vol g mir p = false by unfold rokB; rw [tv]; simp)
    have HQ := Lib.hid hg
    clear hm hg
    go_enter Tryz.func13, Tryz.ntmps13
    go_wp2_with (first | ((with_reducible refine wpList_isOp (.box 23 (.tmp 1)) rfl ?_); refine wpList_boxing _ w0 rfl 23 (.tmp 1) rfl (geC g) HG rfl (by exact HRG.out.sz) (by exact HRG.out.al) ?_) | ((with_reducible refine wpList_isOp (.box 26 (.tmp 3)) rfl ?_); refine wpList_boxing _ w1 rfl 26 (.tmp 3) rfl (pcC p (.slice A p.B.length C)) H rfl (by exact HR.out.sz) (by exact HR.out.al) ?_) | ((with_reducible refine wpList_isOp (.load 26 (.tmp 7)) rfl ?_); refine wpList_loading _ rfl 26 (.tmp 7) rfl (.agg (pcC p (.slice A p.B.length C))) ⟨H, 0, none⟩ rfl (by exact HLp.out) ?_) | (go_at_call 19; refine HM.out.mono ?_; rintro e w2 ⟨rfl, hc2⟩; obtain ⟨x0, x1, x2, x3⟩ := HGX.out.gr hc2) | (go_at_call 38; refine (rgmay_any g _).mono ?_; rintro e w3 ⟨rfl, hc3⟩; first | rw [HQ.out] | skip) | (go_at_call 44; refine (w11_any _ _).mono ?_; rintro e w' ⟨rfl, rfl⟩))
    go_ret2
    exact secRPost_no HN.out ((HCH.out.trans hc2).trans hc3)
  by_cases h0 : mir < 0
  · have HN := Lib.hid (rok_mir (vol := vol) (g := g) (p := p) (show mirB mir = false from decide_eq_false fun q => by have := q.1; omega))
    have HQ := Lib.hid hg
    clear hm hg
    go_enter Tryz.func13, Tryz.ntmps13
    go_wp2_with (first | ((with_reducible refine wpList_isOp (.box 23 (.tmp 1)) rfl ?_); refine wpList_boxing _ w0 rfl 23 (.tmp 1) rfl (geC g) HG rfl (by exact HRG.out.sz) (by exact HRG.out.al) ?_) | ((with_reducible refine wpList_isOp (.box 26 (.tmp 3)) rfl ?_); refine wpList_boxing _ w1 rfl 26 (.tmp 3) rfl (pcC p (.slice A p.B.length C)) H rfl (by exact HR.out.sz) (by exact HR.out.al) ?_) | ((with_reducible refine wpList_isOp (.load 26 (.tmp 7)) rfl ?_); refine wpList_loading _ rfl 26 (.tmp 7) rfl (.agg (pcC p (.slice A p.B.length C))) ⟨H, 0, none⟩ rfl (by exact HLp.out) ?_) | (go_at_call 19; refine HM.out.mono ?_; rintro e w2 ⟨rfl, hc2⟩; obtain ⟨x0, x1, x2, x3⟩ := HGX.out.gr hc2) | (go_at_call 38; refine (rgmay_any g _).mono ?_; rintro e w3 ⟨rfl, hc3⟩; first | rw [HQ.out] | skip) | (go_at_call 44; refine (w11_any _ _).mono ?_; rintro e w' ⟨rfl, rfl⟩))
    go_ret2
    exact secRPost_no HN.out ((HCH.out.trans hc2).trans hc3)
  by_cases h1 : 1 < mir
  · have HN := Lib.hid (rok_mir (vol := vol) (g := g) (p := p) (show mirB mir = false from decide_eq_false fun q => by have := q.2; omega))
    have HQ := Lib.hid hg
    clear hm hg
    go_enter Tryz.func13, Tryz.ntmps13
    go_wp2_with (first | ((with_reducible refine wpList_isOp (.box 23 (.tmp 1)) rfl ?_); refine wpList_boxing _ w0 rfl 23 (.tmp 1) rfl (geC g) HG rfl (by exact HRG.out.sz) (by exact HRG.out.al) ?_) | ((with_reducible refine wpList_isOp (.box 26 (.tmp 3)) rfl ?_); refine wpList_boxing _ w1 rfl 26 (.tmp 3) rfl (pcC p (.slice A p.B.length C)) H rfl (by exact HR.out.sz) (by exact HR.out.al) ?_) | ((with_reducible refine wpList_isOp (.load 26 (.tmp 7)) rfl ?_); refine wpList_loading _ rfl 26 (.tmp 7) rfl (.agg (pcC p (.slice A p.B.length C))) ⟨H, 0, none⟩ rfl (by exact HLp.out) ?_) | (go_at_call 19; refine HM.out.mono ?_; rintro e w2 ⟨rfl, hc2⟩; obtain ⟨x0, x1, x2, x3⟩ := HGX.out.gr hc2) | (go_at_call 38; refine (rgmay_any g _).mono ?_; rintro e w3 ⟨rfl, hc3⟩; first | rw [HQ.out] | skip) | (go_at_call 44; refine (w11_any _ _).mono ?_; rintro e w' ⟨rfl, rfl⟩))
    go_ret2
    exact secRPost_no HN.out ((HCH.out.trans hc2).trans hc3)
  have hr : mirB mir = true := inB_true.2 ⟨by omega, by omega⟩
  have HQ := Lib.hid hg
  have HMM := Lib.hid hm
  have HMR := Lib.hid hr
  have hsq := (mayP_iff.1 hm).seq
  obtain ⟨W, hW⟩ : ∃ W, W = g.wal := ⟨_, rfl⟩
  have hsl := slot_in hg hsq.1
  obtain ⟨⟨wa, wb⟩, _⟩ := may_parts hg
  rw [← hW] at hsl wa wb
  obtain ⟨S, hS⟩ : ∃ S, S = p.seq % W := ⟨_, rfl⟩
  obtain ⟨X, hX⟩ : ∃ X, X = mir * W := ⟨_, rfl⟩
  have hX2 : 0 ≤ X ∧ X ≤ 512 := by
    rw [hX]
    obtain rfl | rfl : mir = 0 ∨ mir = 1 := by omega
    · omega
    · omega
  obtain ⟨Y, hY⟩ : ∃ Y, Y = addrR g mir (p.seq % g.wal) := ⟨_, rfl⟩
  have hY2 : 4 + X + S = Y := by rw [hY, hX, hS, hW]; rfl
  rw [← hS] at hsl
  have HE0 : Hid (p.seq.tmod W = S) := Lib.hid (by rw [hS]; exact Int.tmod_eq_emod_of_nonneg hsq.1)
  have HE1 : Hid (IntKind.i64.wrap (mir * W) = X) := Lib.hid (by rw [← hX]; exact wrapI_in (by omega) (by omega))
  have HE2 : Hid (IntKind.i64.wrap (4 + X) = 4 + X) := Lib.hid (wrapI_in (by omega) (by omega))
  have HE3 : Hid (IntKind.i64.wrap (4 + X + S) = Y) := Lib.hid (by rw [hY2]; exact wrapI_in (by omega) (by omega))
  have HWZ := Lib.hid (show ¬ W = 0 by omega)
  have HWW := Lib.hid hW
  have HYY := Lib.hid hY
  have HNI := Lib.hid (numR_in hm)
  obtain ⟨N0, hN0⟩ : ∃ N, N = (numR p 0).toNat := ⟨_, rfl⟩
  obtain ⟨N1, hN1⟩ : ∃ N, N = (numR p 1).toNat := ⟨_, rfl⟩
  obtain ⟨N2, hN2⟩ : ∃ N, N = (numR p 2).toNat := ⟨_, rfl⟩
  obtain ⟨N3, hN3⟩ : ∃ N, N = (numR p 3).toNat := ⟨_, rfl⟩
  have HN0 : Hid (p.fr = (N0 : Int) ∧ N0 = (numR p 0).toNat ∧ N0 ≤ 4294967295) := Lib.hid ⟨by rw [hN0]; exact num_nat hm 0, hN0, by have := numR_in hm 0; omega⟩
  have HN1 : Hid (p.ch = (N1 : Int) ∧ N1 = (numR p 1).toNat ∧ N1 ≤ 4294967295) := Lib.hid ⟨by rw [hN1]; exact num_nat hm 1, hN1, by have := numR_in hm 1; omega⟩
  have HN2 : Hid (p.ix = (N2 : Int) ∧ N2 = (numR p 2).toNat ∧ N2 ≤ 4294967295) := Lib.hid ⟨by rw [hN2]; exact num_nat hm 2, hN2, by have := numR_in hm 2; omega⟩
  have HN3 : Hid (p.ofn = (N3 : Int) ∧ N3 = (numR p 3).toNat ∧ N3 ≤ 4294967295) := Lib.hid ⟨by rw [hN3]; exact num_nat hm 3, hN3, by have := numR_in hm 3; omega⟩
  have HPL := Lib.hid (prefR_len hm)
  have HLEN := Lib.hid (mayP_iff.1 hm).len
  clear hm hg hr hsl hX hX2 hY hY2 wa wb hsq hS hW hN0 hN1 hN2 hN3
  go_enter Tryz.func13, Tryz.ntmps13
  go_wp2_with (first | ((with_reducible refine wpList_isOp (.box 23 (.tmp 1)) rfl ?_); refine wpList_boxing _ w0 rfl 23 (.tmp 1) rfl (geC g) HG rfl (by exact HRG.out.sz) (by exact HRG.out.al) ?_) | ((with_reducible refine wpList_isOp (.box 26 (.tmp 3)) rfl ?_); refine wpList_boxing _ w1 rfl 26 (.tmp 3) rfl (pcC p (.slice A p.B.length C)) H rfl (by exact HR.out.sz) (by exact HR.out.al) ?_) | ((with_reducible refine wpList_isOp (.load 26 (.tmp 7)) rfl ?_); refine wpList_loading _ rfl 26 (.tmp 7) rfl (.agg (pcC p (.slice A p.B.length C))) ⟨H, 0, none⟩ rfl (by exact HLp.out) ?_) | (go_at_call 19; refine HM.out.mono ?_; rintro e w2 ⟨rfl, hc2⟩; obtain ⟨x0, x1, x2, x3⟩ := HGX.out.gr hc2) | (go_at_call 38; refine (rgmay_any g _).mono ?_; rintro e w3 ⟨rfl, hc3⟩; rw [HQ.out]; have HPX3 := Lib.hid ((HPX.out.gr hc2).gr hc3); have y2 := HPX3.out.2.2.1; rw [HN0.out.1] at y2) | (go_at_call 44; refine (w11_any _ _).mono ?_; rintro e w' ⟨rfl, rfl⟩) | fail)
  have HGX3 := Lib.hid ((HGX.out.gr hc2).gr hc3)
  have HIS3 := Lib.hid ((HIS.out.gr hc2).gr hc3)
  have HC3 := Lib.hid ((HCH.out.trans hc2).trans hc3)
  clear hc2 hc3 x0 x1 x2 x3 tv h0 h1
  refine (rnum_any N0 (by have := HN0.out.2.2; omega) w3).mono ?_
  rintro e w4 ⟨u, rfl, q1, q2⟩
  rw [HN0.out.2.1] at q1
  have HO4 := Lib.hid (out_new q1 q2)
  clear q1 q2 y2
  have y := HPX3.out.gr HO4.out.ch
  have y1 := y.2.2.2.1
  rw [HN1.out.1] at y1
  clear y
  go_wp2_with fail
  refine (rnum_any N1 (by have := HN1.out.2.2; omega) _).mono ?_
  rintro e w1a ⟨u1, rfl, q1, q2⟩
  rw [HN1.out.2.1] at q1
  obtain ⟨v1, w1b, hr1, ho1⟩ := (HO4.out.gr q2).app (ownsRow_rowV q1 (by have := digs_len5 (n := (numR p 1).toNat) (by have := HNI.out 1; omega); omega) (fun c _ => Cod.litZ_b (Cod.digs_b _) c)) (bodyR_next p (show 1 < 4 by omega)) (by have := HPL.out (1); have := digs_len5 (n := (numR p 1).toNat) (by have := HNI.out 1; omega); omega)
  rw [← List.length_append, ← prefR_snoc] at ho1
  have HR1 := Lib.hid hr1
  have HO5 := Lib.hid ho1
  clear q1 q2 hr1 ho1 y1
  have y := HPX3.out.gr HO5.out.ch
  have y1 := y.2.2.2.2.1
  rw [HN2.out.1] at y1
  clear y
  go_wp2_with (first | (at_builtin; refine wpList_app_of _ rfl (.tmp 41) (.tmp 44) rfl rfl _ _ v1 w1b rfl rfl HR1.out ?_) | fail)
  refine (rnum_any N2 (by have := HN2.out.2.2; omega) _).mono ?_
  rintro e w2a ⟨u2, rfl, q1, q2⟩
  rw [HN2.out.2.1] at q1
  obtain ⟨v2, w2b, hr2, ho2⟩ := (HO5.out.gr q2).app (ownsRow_rowV q1 (by have := digs_len5 (n := (numR p 2).toNat) (by have := HNI.out 2; omega); omega) (fun c _ => Cod.litZ_b (Cod.digs_b _) c)) (bodyR_next p (show 2 < 4 by omega)) (by have := HPL.out (1 + 1); have := digs_len5 (n := (numR p 2).toNat) (by have := HNI.out 2; omega); omega)
  rw [← List.length_append, ← prefR_snoc] at ho2
  have HR2 := Lib.hid hr2
  have HO6 := Lib.hid ho2
  clear q1 q2 hr2 ho2 y1
  have y := HPX3.out.gr HO6.out.ch
  have y1 := y.2.2.2.2.2.1
  rw [HN3.out.1] at y1
  clear y
  go_wp2_with (first | (at_builtin; refine wpList_app_of _ rfl (.tmp 46) (.tmp 49) rfl rfl _ _ v2 w2b rfl rfl HR2.out ?_) | fail)
  refine (rnum_any N3 (by have := HN3.out.2.2; omega) _).mono ?_
  rintro e w3a ⟨u3, rfl, q1, q2⟩
  rw [HN3.out.2.1] at q1
  obtain ⟨v3, w3b, hr3, ho3⟩ := (HO6.out.gr q2).app (ownsRow_rowV q1 (by have := digs_len5 (n := (numR p 3).toNat) (by have := HNI.out 3; omega); omega) (fun c _ => Cod.litZ_b (Cod.digs_b _) c)) (bodyR_next p (show 3 < 4 by omega)) (by have := HPL.out (1 + 1 + 1); have := digs_len5 (n := (numR p 3).toNat) (by have := HNI.out 3; omega); omega)
  rw [← List.length_append, ← prefR_snoc] at ho3
  have HR3 := Lib.hid hr3
  have HO7 := Lib.hid ho3
  clear q1 q2 hr3 ho3 y1
  have y := HPX3.out.gr HO7.out.ch
  have y1 := y.2.2.2.2.2.2
  clear y
  go_wp2_with (first | (at_builtin; refine wpList_app_of _ rfl (.tmp 51) (.tmp 54) rfl rfl _ _ v3 w3b rfl rfl HR3.out ?_) | fail)
  refine (rbytes_any A p.B.length C (Cod.litZ p.B) w3b (by have := HLEN.out; omega) ((HIS3.out.row).gr HO7.out.ch)).mono ?_
  rintro e w4a ⟨u4, rfl, q1, q2⟩
  rw [byL_own] at q1
  obtain ⟨v4, w4b, hr4, ho4⟩ := (HO7.out.gr q2).app (ownsRow_rowV q1 (by unfold byR; rw [List.length_append]; have := digs_len5 (n := p.B.length) (by have := HLEN.out; omega); have := HLEN.out; omega) (fun c _ => Cod.litZ_b (byR_b HIS3.out.byt) c)) (fun c _ => bodyR_bytes p c) (by unfold byR; rw [List.length_append]; have := digs_len5 (n := p.B.length) (by have := HLEN.out; omega); have := HLEN.out; have := HPL.out (1 + 1 + 1 + 1); omega)
  have e4 : (prefR p 4).length + (byR p).length = (bodyR p).length := by rw [← List.length_append]; rfl
  rw [e4] at ho4
  have hown : w4b.ownsRow w3.heap.size /-t-/5 1 v4 (bodyR p).length (bytesL (bodyR p).length (Cod.litZ (bodyR p))) := ho4.own
  obtain ⟨A8, C8, hv8⟩ := own_slice hown
  rw [hv8] at hown hr4
  have HR4 := Lib.hid hr4
  have HBK := Lib.hid (fun (w' : World) (k : Ch (fun _ => False) w4b w') => rinB_is (vol := vol) (g := g) (mir := mir) HMM.out HQ.out HMR.out HVL.out ((ownsRow_rowV hown (by have := body_lenR HMM.out; omega) (fun c _ => Cod.litZ_b (bodyR_b HIS3.out.byt) c)).gr k))
  have HC8 := Lib.hid (HC3.out.trans ho4.ch)
  have HPX8 := Lib.hid (HPX3.out.gr ho4.ch)
  have HGX8 := Lib.hid (HGX3.out.gr ho4.ch)
  have HBV := Lib.hid (show rinB vol g mir p (.slice A8 (bodyR p).length C8) = ⟨3, vol, Y, p.ep, p.seq, .slice A8 (bodyR p).length C8, (bodyR p).length, Cod.litZ (bodyR p)⟩ by rw [HYY.out]; rfl)
  clear q1 q2 hr4 ho4 hown e4 y1 HO4 HO5 HO6 HO7 hv8
  obtain ⟨y0, y1, y2, y3, y4, y5, y6⟩ := HPX8.out
  obtain ⟨x0, x1, x2, x3⟩ := HGX8.out
  rw [← HWW.out] at x0
  have HK3 := Lib.hid (And.intro y0 (And.intro y1 x0))
  go_wp2_with (first | (at_builtin; refine wpList_app_of _ rfl (.tmp 62) (.tmp 63) rfl rfl _ _ (.slice A8 (bodyR p).length C8) w4b rfl rfl HR4.out ?_) | fail)
  obtain ⟨L, hL⟩ : ∃ L, L = (bodyR p).length := ⟨_, rfl⟩
  rw [← hL] at HBV HBK
  rw [← hL]
  clear hL y2 y3 y4 y5 y6 x1 x2 x3
  have we0 := HE0.out
  have we1 := HE1.out
  have we2 := HE2.out
  have we3 := HE3.out
  have we4 := HWZ.out
  go_region_held3 (fun w' => w'.cell? ⟨H, 0, none⟩ = some (.int .i64 p.seq) ∧ w'.cell? ⟨H, 1, none⟩ = some (.int .i64 p.ep) ∧ w'.cell? ⟨HG, 0, none⟩ = some (.int .i64 W)) (first | exact kc | go_keep)
    (first
      | (go_at_call 47; refine (rsealB_any ⟨3, vol, Y, p.ep, p.seq, .slice A8 L C8, L, Cod.litZ (bodyR p)⟩ A8 C8 _ rfl (by rw [← HBV.out]; exact HBK.out _ (Ch.refl _ w4b).drew)).mono ?_; rintro e w6 hq; rw [← HBV.out] at hq; have hfin := secRPost_seal HMM.out HQ.out HMR.out HC8.out.drew hq; obtain ⟨A6, C6, rfl, q3, q4⟩ := hq; have q5 := (Ch.refl (fun _ => False) w4b).drew.trans q4; have kc := And.intro (q5.cell HK3.out.1 (fun f => f)) (And.intro (q5.cell HK3.out.2.1 (fun f => f)) (q5.cell HK3.out.2.2 (fun f => f)))))
  have HFIN := Lib.hid hfin
  clear hfin
  go_wp2
  go_ret2
  exact HFIN.out
end Go.Proofs.YteleknojohnlbaaGreat
