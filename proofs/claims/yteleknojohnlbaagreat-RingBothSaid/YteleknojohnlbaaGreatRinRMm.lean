/-
  The document's word, fits (quartermasterref11), walked.
-/
import Derived.Test.YteleknojohnlbaaGreatMg40
namespace Go.Proofs.YteleknojohnlbaaGreat
open Go.RowKit
set_option linter.unusedVariables false
set_option maxRecDepth 100000
set_option linter.unusedSimpArgs false

theorem w11_any (n : Int) (w : World) : Calls Tryz.prog 44 #[.int .i64 n] w fun e w' => e = .returned (.bool (wordS n)) ∧ w = w' := by
  by_cases h1 : 0 ≤ n
  · by_cases h2 : n ≤ 4294967295
    · have HE := Lib.hid (show wordS n = true from inB_true.2 ⟨h1, h2⟩)
      have t1 : decide (0 ≤ n) = true := decide_eq_true h1
      have t2 : decide (n ≤ 4294967295) = true := decide_eq_true h2
      clear h1 h2
      go_enter Tryz.func44, Tryz.ntmps44
      go_wp2
      go_ret
      exact ⟨ret_bool HE.out.symm, rfl⟩
    · have HE := Lib.hid (show wordS n = false from decide_eq_false fun q => h2 q.2)
      have t1 : decide (0 ≤ n) = true := decide_eq_true h1
      have t2 : decide (n ≤ 4294967295) = false := decide_eq_false h2
      clear h1 h2
      go_enter Tryz.func44, Tryz.ntmps44
      go_wp2
      go_ret
      exact ⟨ret_bool HE.out.symm, rfl⟩
  · have HE := Lib.hid (show wordS n = false from decide_eq_false fun q => h1 q.1)
    have t1 : decide (0 ≤ n) = false := decide_eq_false h1
    clear h1
    go_enter Tryz.func44, Tryz.ntmps44
    go_wp2
    go_ret
    exact ⟨ret_bool HE.out.symm, rfl⟩
#print axioms w11_any
/-! ### fits -/
theorem fits_last (L : List Pn) (a : Pn) (s : Int) (p : Pn) (h : 1 ≤ a.ofn) : fitsP a s p = if p.ch = s then (if p.ep = a.ep then decide (p.fr = a.fr) else (decide (a.ep < p.ep) && decide (p.fr = p.seq))) else false := by
  unfold fitsP goesOn
  rw [if_neg (by omega : ¬ a.ofn = 0)]
set_option maxHeartbeats 6400000 in
theorem r11fits_none (p : Pn) (V : Value) (A : Option Addr) (C : Nat) (s : Int) (w : World) : Calls Tryz.prog 57 #[.agg (pcC p V), .slice A 0 C, .int .i64 s] w (Ans (.bool (fitsP pn0 s p)) w) := by
  obtain ⟨w1, H, hR⟩ := boxR w (pcC p V) 26
  obtain ⟨y0, y1, y2, y3, y4, y5, y6⟩ := pc_x hR.cx
  have HR := Lib.hid hR
  clear hR
  by_cases q1 : p.ch = s
  · have t1 : (p.ch != s) = false := by simpa using q1
    have HE := Lib.hid (show fitsP pn0 s p = true by unfold fitsP goesOn; rw [if_pos q1]; rfl)
    clear q1
    go_enter Tryz.func57, Tryz.ntmps57
    go_wp2_with (first | ((with_reducible refine wpList_isOp (.box 26 (.tmp 0)) rfl ?_); refine wpList_boxing _ w1 rfl 26 (.tmp 0) rfl (pcC p V) H rfl (by exact HR.out.sz) (by exact HR.out.al) ?_))
    go_ret
    exact ⟨ret_bool HE.out.symm, HR.out.ch⟩
  · have t1 : (p.ch != s) = true := by simpa using q1
    have HE := Lib.hid (show fitsP pn0 s p = false by unfold fitsP; rw [if_neg q1])
    clear q1
    go_enter Tryz.func57, Tryz.ntmps57
    go_wp2_with (first | ((with_reducible refine wpList_isOp (.box 26 (.tmp 0)) rfl ?_); refine wpList_boxing _ w1 rfl 26 (.tmp 0) rfl (pcC p V) H rfl (by exact HR.out.sz) (by exact HR.out.al) ?_))
    go_ret
    exact ⟨ret_bool HE.out.symm, HR.out.ch⟩
#print axioms r11fits_none
theorem pv_load {w : World} {A : Option Addr} {C : Nat} {L : List Pv} (h : RwV kdP elP w A C L) {i : Nat} {x : Pv} (hx : L[i]? = some x) : ∃ b o, A = some ⟨b, o, none⟩ ∧ (loadVar 26 ⟨b, o + i * 7, none⟩).run Tryz.prog w = .ok (.agg (pcC x.p x.V)) w := by
  obtain ⟨b, o, hA, hc⟩ := h.at' (by have := (List.getElem?_eq_some_iff.1 hx).1; omega)
  exact ⟨b, o, hA, run_loadVar_mid w b (o + i * 7) _ (pcC x.p x.V).toList _ (fun j v hv => hc i x hx j v hv) Tryz.underlying26 rfl (show _ = some 7 by kernel_rfl)⟩
set_option maxHeartbeats 6400000 in
theorem r11fits_some (p : Pn) (V : Value) (A : Option Addr) (C : Nat) (L : List Pv) (x : Pv) (s : Int) (w : World) (h : RwV kdP elP w A C L) (hx : L[L.length - 1]? = some x) (ho : 1 ≤ x.p.ofn) (hl : L.length ≤ 1000) : Calls Tryz.prog 57 #[.agg (pcC p V), .slice A L.length C, .int .i64 s] w (Ans (.bool (fitsP x.p s p)) w) := by
  obtain ⟨w1, H, hR⟩ := boxR w (pcC p V) 26
  obtain ⟨y0, y1, y2, y3, y4, y5, y6⟩ := pc_x hR.cx
  have hSV : SlV x.V := slV_row (h.rows x (List.mem_of_getElem? hx)).1
  obtain ⟨wz, wx, D, hV⟩ := varPc x.p hSV w1
  obtain ⟨z0, z1, z2, z3, z4, z5, z6⟩ := (pc_x hR.cx).gr hV.ch
  obtain ⟨a0, a1, a2, a3, a4, a5, a6⟩ := pc_x hV.cx
  obtain ⟨b, o, rfl, hld⟩ := pv_load (h.gr hR.ch) hx
  have hlt := (List.getElem?_eq_some_iff.1 hx).1
  obtain ⟨M, hM⟩ : ∃ M, M = L.length - 1 := ⟨_, rfl⟩
  rw [← hM] at hld
  obtain ⟨n, hn⟩ : ∃ n, n = L.length := ⟨_, rfl⟩
  rw [← hn] at hM hlt hl ⊢
  obtain ⟨O, hO⟩ : ∃ O, O = o + M * 7 := ⟨_, rfl⟩
  rw [← hO] at hld
  have HO := Lib.hid hO.symm
  have HLD := Lib.hid hld
  have HR := Lib.hid hR
  have HV := Lib.hid hV
  have e1 : wrap64 ((n : Int) - 1) = (M : Int) := by rw [IntWalk.wrap64_in _ ⟨by omega, by omega⟩]; omega
  have e0 : ((n : Int) == 0) = false := by
    have : ¬ (n : Int) = 0 := by omega
    simpa using this
  have i1 : (0 : Int) ≤ (M : Int) := Int.natCast_nonneg _
  have i2 : (M : Int) < (n : Int) := by omega
  have HF := Lib.hid (fits_last (L.map Pv.p) x.p s p ho)
  clear hR hV hld hO hx hlt h hSV hM hn ho hl
  by_cases q1 : p.ch = s
  · have t1 : (p.ch != s) = false := by simpa using q1
    by_cases q3 : p.ep = x.p.ep
    · have t3 : (p.ep == x.p.ep) = true := by simpa using q3
      have HE := Lib.hid (show fitsP x.p s p = (p.fr == x.p.fr) by rw [HF.out, if_pos q1, if_pos q3]; rfl)
      clear q1 q3
      go_enter Tryz.func57, Tryz.ntmps57
      go_wp2_with (first
        | ((with_reducible refine wpList_isOp (.box 26 (.tmp 0)) rfl ?_); refine wpList_boxing _ w1 rfl 26 (.tmp 0) rfl (pcC p V) H rfl (by exact HR.out.sz) (by exact HR.out.al) ?_)
        | ((with_reducible refine wpList_isOp (.load 26 (.tmp 19)) rfl ?_); refine wpList_loading _ rfl 26 (.tmp 19) rfl (.agg (pcC x.p x.V)) ⟨b, O, none⟩ (by have hO := HO.out; go_simp) (by exact HLD.out) ?_)
        | ((with_reducible refine wpList_isOp (.alloc 26) rfl ?_); refine wpList_making _ wz rfl 26 rfl (pcC pn0 (.slice none 0 0)) D (zero_pc _) (by exact HV.out.sz) (by exact HV.out.al) ?_)
        | ((with_reducible refine wpList_isOp (.store 26 (.tmp 7) (.tmp 20)) rfl ?_); refine wpList_storing _ wx rfl 26 (.tmp 7) (.tmp 20) rfl (.agg (pcC x.p x.V)) ⟨D, 0, none⟩ rfl rfl (by exact HV.out.st) ?_)
        | fail)
      go_ret
      exact ⟨ret_bool HE.out.symm, HR.out.ch.trans HV.out.ch⟩
    · have t3 : (p.ep == x.p.ep) = false := by simpa using q3
      by_cases q4 : x.p.ep < p.ep
      · have t4 : decide (x.p.ep < p.ep) = true := decide_eq_true q4
        have HE := Lib.hid (show fitsP x.p s p = (p.fr == p.seq) by rw [HF.out, if_pos q1, if_neg q3, t4]; rfl)
        clear q1 q3 q4
        go_enter Tryz.func57, Tryz.ntmps57
        go_wp2_with (first
          | ((with_reducible refine wpList_isOp (.box 26 (.tmp 0)) rfl ?_); refine wpList_boxing _ w1 rfl 26 (.tmp 0) rfl (pcC p V) H rfl (by exact HR.out.sz) (by exact HR.out.al) ?_)
          | ((with_reducible refine wpList_isOp (.load 26 (.tmp 19)) rfl ?_); refine wpList_loading _ rfl 26 (.tmp 19) rfl (.agg (pcC x.p x.V)) ⟨b, O, none⟩ (by have hO := HO.out; go_simp) (by exact HLD.out) ?_)
          | ((with_reducible refine wpList_isOp (.alloc 26) rfl ?_); refine wpList_making _ wz rfl 26 rfl (pcC pn0 (.slice none 0 0)) D (zero_pc _) (by exact HV.out.sz) (by exact HV.out.al) ?_)
          | ((with_reducible refine wpList_isOp (.store 26 (.tmp 7) (.tmp 20)) rfl ?_); refine wpList_storing _ wx rfl 26 (.tmp 7) (.tmp 20) rfl (.agg (pcC x.p x.V)) ⟨D, 0, none⟩ rfl rfl (by exact HV.out.st) ?_)
          | fail)
        go_ret
        exact ⟨ret_bool HE.out.symm, HR.out.ch.trans HV.out.ch⟩
      · have t4 : decide (x.p.ep < p.ep) = false := decide_eq_false q4
        have HE := Lib.hid (show fitsP x.p s p = false by rw [HF.out, if_pos q1, if_neg q3, t4]; rfl)
        clear q1 q3 q4
        go_enter Tryz.func57, Tryz.ntmps57
        go_wp2_with (first
          | ((with_reducible refine wpList_isOp (.box 26 (.tmp 0)) rfl ?_); refine wpList_boxing _ w1 rfl 26 (.tmp 0) rfl (pcC p V) H rfl (by exact HR.out.sz) (by exact HR.out.al) ?_)
          | ((with_reducible refine wpList_isOp (.load 26 (.tmp 19)) rfl ?_); refine wpList_loading _ rfl 26 (.tmp 19) rfl (.agg (pcC x.p x.V)) ⟨b, O, none⟩ (by have hO := HO.out; go_simp) (by exact HLD.out) ?_)
          | ((with_reducible refine wpList_isOp (.alloc 26) rfl ?_); refine wpList_making _ wz rfl 26 rfl (pcC pn0 (.slice none 0 0)) D (zero_pc _) (by exact HV.out.sz) (by exact HV.out.al) ?_)
          | ((with_reducible refine wpList_isOp (.store 26 (.tmp 7) (.tmp 20)) rfl ?_); refine wpList_storing _ wx rfl 26 (.tmp 7) (.tmp 20) rfl (.agg (pcC x.p x.V)) ⟨D, 0, none⟩ rfl rfl (by exact HV.out.st) ?_)
          | fail)
        go_ret
        exact ⟨ret_bool HE.out.symm, HR.out.ch.trans HV.out.ch⟩
  · have t1 : (p.ch != s) = true := by simpa using q1
    have HE := Lib.hid (show fitsP x.p s p = false by rw [HF.out, if_neg q1])
    clear q1
    go_enter Tryz.func57, Tryz.ntmps57
    go_wp2_with (first | ((with_reducible refine wpList_isOp (.box 26 (.tmp 0)) rfl ?_); refine wpList_boxing _ w1 rfl 26 (.tmp 0) rfl (pcC p V) H rfl (by exact HR.out.sz) (by exact HR.out.al) ?_))
    go_ret
    exact ⟨ret_bool HE.out.symm, HR.out.ch⟩
#print axioms r11fits_some
end Go.Proofs.YteleknojohnlbaaGreat
