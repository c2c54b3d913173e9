/-
  Two pieces sorted: cmp.Compare, the function that tells which is ahead, and slices.SortStableFunc of at most two.
-/
import Derived.Test.YteleknojohnlbaaGreatMc23
namespace Go.Proofs.YteleknojohnlbaaGreat
open Go.RowKit
set_option linter.unusedVariables false
set_option maxRecDepth 100000
def cmpI (a b : Int) : Int := if a < b then -1 else if b < a then 1 else 0
theorem isNaN_any (n : Int) (w : World) : Calls Tryz.prog 134 #[.int .i64 n] w fun e w' => e = .returned (.bool false) ∧ w = w' := by
  go_enter Tryz.func134, Tryz.ntmps134
  have t : (n != n) = false := by simp
  go_wp2
  go_ret
  exact ⟨rfl, rfl⟩
set_option maxHeartbeats 800000 in
theorem compare_any (a b : Int) (w : World) : Calls Tryz.prog 125 #[.int .i64 a, .int .i64 b] w fun e w' => e = .returned (.int .i64 (cmpI a b)) ∧ w = w' := by
  by_cases h1 : a < b
  · have t1 : decide (a < b) = true := decide_eq_true h1
    have HE := Lib.hid (show cmpI a b = -1 from if_pos h1)
    clear h1
    go_enter Tryz.func125, Tryz.ntmps125
    go_wp2_with (go_at_call 134; refine (isNaN_any _ _).mono ?_; rintro e w' ⟨rfl, rfl⟩)
    go_ret
    exact ⟨ret_int HE.out.symm, rfl⟩
  · have t1 : decide (a < b) = false := decide_eq_false h1
    by_cases h2 : b < a
    · have t2 : decide (b < a) = true := decide_eq_true h2
      have HE := Lib.hid (show cmpI a b = 1 by unfold cmpI; rw [if_neg h1, if_pos h2])
      clear h1 h2
      go_enter Tryz.func125, Tryz.ntmps125
      go_wp2_with (go_at_call 134; refine (isNaN_any _ _).mono ?_; rintro e w' ⟨rfl, rfl⟩)
      go_ret
      exact ⟨ret_int HE.out.symm, rfl⟩
    · have t2 : decide (b < a) = false := decide_eq_false h2
      have HE := Lib.hid (show cmpI a b = 0 by unfold cmpI; rw [if_neg h1, if_neg h2])
      clear h1 h2
      go_enter Tryz.func125, Tryz.ntmps125
      go_wp2_with (go_at_call 134; refine (isNaN_any _ _).mono ?_; rintro e w' ⟨rfl, rfl⟩)
      go_ret
      exact ⟨ret_int HE.out.symm, rfl⟩
set_option maxHeartbeats 800000 in
theorem toldCmp_any (p q : Pn) (U V : Value) (w : World) : Calls Tryz.prog 124 #[.agg (pcC p U), .agg (pcC q V)] w (Ans (.int .i64 (cmpI q.ep p.ep)) w) := by
  obtain ⟨w0, D, hD⟩ := boxR w (pcC p U) 26
  obtain ⟨w1, H, hR⟩ := boxR w0 (pcC q V) 26
  have a1 : w1.cell? ⟨D, 1, none⟩ = some (.int .i64 p.ep) := hR.ch.cell (p := ⟨D, 1, none⟩) (blk_cell hD.cx) (fun f => f)
  have b1 : w1.cell? ⟨H, 1, none⟩ = some (.int .i64 q.ep) := blk_cell hR.cx
  have HC := Lib.hid (hD.ch.trans hR.ch)
  have HD := Lib.hid hD
  have HR := Lib.hid hR
  clear hD hR
  go_enter Tryz.func124, Tryz.ntmps124
  go_wp2_with (first | ((with_reducible refine wpList_isOp (.box 26 (.tmp 0)) rfl ?_); refine wpList_boxing _ w0 rfl 26 (.tmp 0) rfl (pcC p U) D rfl (by exact HD.out.sz) (by exact HD.out.al) ?_) | ((with_reducible refine wpList_isOp (.box 26 (.tmp 1)) rfl ?_); refine wpList_boxing _ w1 rfl 26 (.tmp 1) rfl (pcC q V) H rfl (by exact HR.out.sz) (by exact HR.out.al) ?_) | (go_at_call 125; refine (compare_any _ _ _).mono ?_; rintro e w' ⟨rfl, rfl⟩))
  go_ret
  exact ⟨rfl, HC.out⟩
def Two (w : World) (g : Nat) (x y : Pv) : Prop := (fun w' => w'.cell? ⟨g, 0, none⟩ = some (.int .i64 x.p.seq) ∧ w'.cell? ⟨g, 1, none⟩ = some (.int .i64 x.p.ep) ∧ w'.cell? ⟨g, 2, none⟩ = some (.int .i64 x.p.fr) ∧ w'.cell? ⟨g, 3, none⟩ = some (.int .i64 x.p.ch) ∧ w'.cell? ⟨g, 4, none⟩ = some (.int .i64 x.p.ix) ∧ w'.cell? ⟨g, 5, none⟩ = some (.int .i64 x.p.ofn) ∧ w'.cell? ⟨g, 6, none⟩ = some x.V ∧ w'.cell? ⟨g, 7, none⟩ = some (.int .i64 y.p.seq) ∧ w'.cell? ⟨g, 8, none⟩ = some (.int .i64 y.p.ep) ∧ w'.cell? ⟨g, 9, none⟩ = some (.int .i64 y.p.fr) ∧ w'.cell? ⟨g, 10, none⟩ = some (.int .i64 y.p.ch) ∧ w'.cell? ⟨g, 11, none⟩ = some (.int .i64 y.p.ix) ∧ w'.cell? ⟨g, 12, none⟩ = some (.int .i64 y.p.ofn) ∧ w'.cell? ⟨g, 13, none⟩ = some y.V) w
theorem Two.all {w : World} {g : Nat} {x y : Pv} (h : Two w g x y) : (fun w' => w'.cell? ⟨g, 0, none⟩ = some (.int .i64 x.p.seq) ∧ w'.cell? ⟨g, 1, none⟩ = some (.int .i64 x.p.ep) ∧ w'.cell? ⟨g, 2, none⟩ = some (.int .i64 x.p.fr) ∧ w'.cell? ⟨g, 3, none⟩ = some (.int .i64 x.p.ch) ∧ w'.cell? ⟨g, 4, none⟩ = some (.int .i64 x.p.ix) ∧ w'.cell? ⟨g, 5, none⟩ = some (.int .i64 x.p.ofn) ∧ w'.cell? ⟨g, 6, none⟩ = some x.V ∧ w'.cell? ⟨g, 7, none⟩ = some (.int .i64 y.p.seq) ∧ w'.cell? ⟨g, 8, none⟩ = some (.int .i64 y.p.ep) ∧ w'.cell? ⟨g, 9, none⟩ = some (.int .i64 y.p.fr) ∧ w'.cell? ⟨g, 10, none⟩ = some (.int .i64 y.p.ch) ∧ w'.cell? ⟨g, 11, none⟩ = some (.int .i64 y.p.ix) ∧ w'.cell? ⟨g, 12, none⟩ = some (.int .i64 y.p.ofn) ∧ w'.cell? ⟨g, 13, none⟩ = some y.V) w := h
theorem two_of {w : World} {g : Nat} {x y : Pv} (h : w.rangeAt g 0 (pcC x.p x.V).toList) (k : w.rangeAt g 7 (pcC y.p y.V).toList) : Two w g x y :=
  ⟨h 0 _ rfl, h 1 _ rfl, h 2 _ rfl, h 3 _ rfl, h 4 _ rfl, h 5 _ rfl, h 6 _ rfl, k 0 _ rfl, k 1 _ rfl, k 2 _ rfl, k 3 _ rfl, k 4 _ rfl, k 5 _ rfl, k 6 _ rfl⟩
theorem Two.r0 {w : World} {g : Nat} {x y : Pv} (h : Two w g x y) : w.rangeAt g 0 (pcC x.p x.V).toList := fun j v hv => by
  obtain ⟨a0, a1, a2, a3, a4, a5, a6, _⟩ := h
  have hj : j < 7 := (List.getElem?_eq_some_iff.1 hv).1
  match j, hj with
  | 0, _ => injection hv with hv; rw [← hv]; exact a0
  | 1, _ => injection hv with hv; rw [← hv]; exact a1
  | 2, _ => injection hv with hv; rw [← hv]; exact a2
  | 3, _ => injection hv with hv; rw [← hv]; exact a3
  | 4, _ => injection hv with hv; rw [← hv]; exact a4
  | 5, _ => injection hv with hv; rw [← hv]; exact a5
  | 6, _ => injection hv with hv; rw [← hv]; exact a6
theorem Two.r7 {w : World} {g : Nat} {x y : Pv} (h : Two w g x y) : w.rangeAt g 7 (pcC y.p y.V).toList := fun j v hv => by
  obtain ⟨_, _, _, _, _, _, _, a0, a1, a2, a3, a4, a5, a6⟩ := h
  have hj : j < 7 := (List.getElem?_eq_some_iff.1 hv).1
  match j, hj with
  | 0, _ => injection hv with hv; rw [← hv]; exact a0
  | 1, _ => injection hv with hv; rw [← hv]; exact a1
  | 2, _ => injection hv with hv; rw [← hv]; exact a2
  | 3, _ => injection hv with hv; rw [← hv]; exact a3
  | 4, _ => injection hv with hv; rw [← hv]; exact a4
  | 5, _ => injection hv with hv; rw [← hv]; exact a5
  | 6, _ => injection hv with hv; rw [← hv]; exact a6
theorem Two.ch {S : Nat → Prop} {w w' : World} {g : Nat} {x y : Pv} (h : Two w g x y) (k : Ch S w w') (hS : ¬ S g) : Two w' g x y :=
  two_of (fun j v hv => k.cell (h.r0 j v hv) hS) (fun j v hv => k.cell (h.r7 j v hv) hS)
theorem Two.drew {w : World} {g : Nat} {x y : Pv} (h : Two w g x y) : Two w.drew g x y := h.ch ((Ch.refl (fun _ => False) w).drew) (fun f => f)
theorem Two.gr {w w' : World} {g : Nat} {x y : Pv} (h : Two w g x y) (k : Ch (fun _ => False) w w') : Two w' g x y := h.ch k (fun f => f)
theorem ld_two0 {w : World} {g : Nat} {x y : Pv} (h : Two w g x y) : (loadVar 26 ⟨g, 0, none⟩).run Tryz.prog w = .ok (.agg (pcC x.p x.V)) w := run_loadVar_mid w g 0 _ (pcC x.p x.V).toList _ h.r0 Tryz.underlying26 rfl (show _ = some 7 by kernel_rfl)
theorem ld_two7 {w : World} {g : Nat} {x y : Pv} (h : Two w g x y) : (loadVar 26 ⟨g, 7, none⟩).run Tryz.prog w = .ok (.agg (pcC y.p y.V)) w := run_loadVar_mid w g 7 _ (pcC y.p y.V).toList _ h.r7 Tryz.underlying26 rfl (show _ = some 7 by kernel_rfl)
theorem there_of {w : World} {g o : Nat} {p : Pn} {V : Value} {c : Array Value} {t : TypeId} (h : w.rangeAt g o (pcC p V).toList) (k : w.heap[g]? = some (.cells c t (0, 0))) : w.there g o 7 := fun j hj => by
  have := h j _ (List.getElem?_eq_getElem (show j < (pcC p V).toList.length from hj))
  exact ⟨by rw [this]; rfl, blk_frozen k⟩
structure SwP (w wb w2 : World) (g : Nat) (x y : Pv) : Prop where
  s1 : (storeVar 26 ⟨g, 7, none⟩ (.agg (pcC x.p x.V))).run Tryz.prog w = .ok () wb
  s2 : (storeVar 26 ⟨g, 0, none⟩ (.agg (pcC y.p y.V))).run Tryz.prog wb = .ok () w2
  two : Two w2 g y x
  ch : Ch (fun i => i = g) w w2
theorem cells_after {w : World} {g : Nat} {c : Array Value} {t : TypeId} (h : w.heap[g]? = some (.cells c t (0, 0))) : ∀ (vs : List Value) (o : Nat), ∃ c2, (w.setCells g o vs).heap[g]? = some (.cells c2 t (0, 0)) := fun vs => by
  induction vs generalizing w c with
  | nil => exact fun o => ⟨c, h⟩
  | cons v vs ih => exact fun o => ih (blk_set (i := o) h v) (o + 1)
theorem swP {w : World} {g : Nat} {x y : Pv} {c : Array Value} {t : TypeId} (h : Two w g x y) (k : w.heap[g]? = some (.cells c t (0, 0))) (hx : SlV x.V) (hy : SlV y.V) : ∃ wb w2, SwP w wb w2 g x y := by
  have e1 := run_storeVar_mid (P := Tryz.prog) w g 7 26 (pcC x.p x.V) (there_of h.r7 k) size_pc (one_pc x.p hx)
  obtain ⟨c1, k1⟩ := cells_after k (pcC x.p x.V).toList 7
  have r0 : (w.setCells g 7 (pcC x.p x.V).toList).rangeAt g 0 (pcC x.p x.V).toList := World.rangeAt_setCells_apart h.r0 g 7 _ (Or.inr (Or.inl (Nat.le_refl 7)))
  have r7 : (w.setCells g 7 (pcC x.p x.V).toList).rangeAt g 7 (pcC x.p x.V).toList := World.rangeAt_setCells_same w g 7 _ (there_of h.r7 k)
  have e2 := run_storeVar_mid (P := Tryz.prog) (w.setCells g 7 (pcC x.p x.V).toList) g 0 26 (pcC y.p y.V) (there_of r0 k1) size_pc (one_pc y.p hy)
  refine ⟨_, _, e1, e2, two_of (World.rangeAt_setCells_same _ g 0 _ (there_of r0 k1)) (World.rangeAt_setCells_apart r7 g 0 _ (Or.inr (Or.inr (Nat.le_refl 7)))), (setCells_ch (fun i => i = g) g rfl _ 7 w).trans (setCells_ch (fun i => i = g) g rfl _ 0 _)⟩
set_option maxHeartbeats 1600000 in
theorem insSort_few (A : Option Addr) (n C : Nat) (F : Value) (hn : n ≤ 1) (w : World) : Calls Tryz.prog 139 #[.slice A n C, .int .i64 0, .int .i64 (n : Int), F] w fun e w' => e = .returned (.tuple #[]) ∧ w = w' := by
  have t : decide ((1 : Int) < (n : Int)) = false := by simp; omega
  go_enter Tryz.func139, Tryz.ntmps139
  go_wp2
  go_loopw [8] (fun i wr => i = .int .i64 1 ∧ wr = w) (fun _ _ => 0)
  case atStart => exact ⟨rfl, rfl⟩
  case round =>
    obtain ⟨rfl, rfl⟩ := hrel
    go_wp2
    go_end0
    exact ⟨rfl, rfl⟩
def SrtSt (w wr : World) (g : Nat) (x y : Pv) : Prop := Ch (fun i => i = g) w wr ∧ (if x.p.ep < y.p.ep then Two wr g y x else Two wr g x y)
theorem step_loading {P : Program} {ops : Array Oper} {o : Oper} {a : Act} {Q : Exit → Act → World → Prop} {w : World} {K : Act → World → Prop} {E : Prop} (hgd : o.guard = none) (ty : TypeId) (x : Operand) (ho : o.op = .load ty x) (v : Value) (p : Addr) (hx : a.eval x = .pointer (some p)) (hr : (loadVar ty p).run P w = .ok v w)
    (hK : K (a.put o.dst v) w) : if Region.wanted o (yielded ops a.tmps) = true then Oper.wp P o a w K Q else E := by
  have hwt : Region.wanted o (yielded ops a.tmps) = true := by simp [Region.wanted, hgd]
  rw [if_pos hwt]
  unfold Oper.wp execOp
  simp only [ho, hx, Instr.loadAt, Instr.sureAddr, Sem.run_bind, Sem.run_pure, Result.andThen_ok, hr]
  exact hK
set_option maxHeartbeats 12800000 in
theorem insSort_two (g C : Nat) (x y : Pv) (w : World) (h : Two w g x y) (hx : SlV x.V) (hy : SlV y.V) (c : Array Value) (hg : w.heap[g]? = some (.cells c 26 (0, 0))) :
    Calls Tryz.prog 139 #[.slice (some ⟨g, 0, none⟩) 2 C, .int .i64 0, .int .i64 2, .func (.func 124) #[] #[]] w fun e w' => e = .returned (.tuple #[]) ∧ SrtSt w w' g x y := by
  have HT := Lib.hid h
  have HX := Lib.hid hx
  have HY := Lib.hid hy
  have HGB := Lib.hid hg
  clear h hx hy hg
  go_enter Tryz.func139, Tryz.ntmps139
  go_wp2
  go_loopw [8] (fun i wr => (i = .int .i64 1 ∧ wr = w) ∨ (i = .int .i64 2 ∧ Hid (SrtSt w wr g x y))) (fun i _ => 2 - (intOf i).toNat)
  case atStart => exact Or.inl ⟨rfl, rfl⟩
  case round =>
    rcases hrel with ⟨rfl, rfl⟩ | ⟨rfl, HS2⟩
    · obtain ⟨wo, rfl⟩ : ∃ wo, wo = wr := ⟨_, rfl⟩
      go_wp2
      go_loopw [9] (fun j wr2 => (j = .int .i64 1 ∧ wr2 = wo) ∨ (j = .int .i64 0 ∧ Hid (SrtSt wo wr2 g x y))) (fun j _ => (intOf j).toNat)
      case atStart => exact Or.inl ⟨rfl, rfl⟩
      case round =>
        rcases hrel with ⟨rfl, hw2⟩ | ⟨rfl, HS2⟩
        · subst hw2
          by_cases q : x.p.ep < y.p.ep
          · have HQ := Lib.hid q
            have HCM := Lib.hid (show cmpI x.p.ep y.p.ep = -1 from if_pos q)
            clear q
            have HS := Lib.hid (show Two wr.drew g x y from HT.out.drew)
            go_upto_region 4 with fail
            refine wp_region_held (S := fun w => Two w g x y) (by kernel_rfl) ?_
            change wpAnyH _ _ _ _ _ _ _ _ (World.drew _)
            refine wpAnyH_take (i := 0) (oi := ⟨some 18, .move (.tmp 9), _, _, _, none⟩) (v := .int .i64 1) rfl (by kernel_rfl) (by kernel_rfl) (by kernel_rfl) (fun _ _ _ h => h) (Or.inl ⟨by rfl, fun w' hS => ?_⟩) HS.out ?_
            · clear hS; go_simp
            simp only [Act.put, List.setIfInBounds_toArray, List.set_cons_zero, List.set_cons_succ]
            refine wpAnyH_take (i := 1) (oi := ⟨some 19, .move (.tmp 1), _, _, _, none⟩) (v := .int .i64 0) rfl (by kernel_rfl) (by kernel_rfl) (by kernel_rfl) (fun _ _ _ h => h) (Or.inl ⟨by rfl, fun w' hS => ?_⟩) HS.out ?_
            · clear hS; go_simp
            simp only [Act.put, List.setIfInBounds_toArray, List.set_cons_zero, List.set_cons_succ]
            refine wpAnyH_take (i := 2) (oi := ⟨some 20, .binOp .gtr 3 (.tmp 18) (.tmp 19) 3, _, _, _, none⟩) (v := .bool true) rfl (by kernel_rfl) (by kernel_rfl) (by kernel_rfl) (fun _ _ _ h => h) (Or.inl ⟨by rfl, fun w' hS => ?_⟩) HS.out ?_
            · clear hS; go_simp
            simp only [Act.put, List.setIfInBounds_toArray, List.set_cons_zero, List.set_cons_succ]
            refine wpAnyH_take (i := 3) (oi := ⟨some 21, .move (.tmp 20), _, _, _, none⟩) (v := .bool true) rfl (by kernel_rfl) (by kernel_rfl) (by kernel_rfl) (fun _ _ _ h => h) (Or.inl ⟨by rfl, fun w' hS => ?_⟩) HS.out ?_
            · clear hS; go_simp
            simp only [Act.put, List.setIfInBounds_toArray, List.set_cons_zero, List.set_cons_succ]
            refine wpAnyH_take (i := 4) (oi := ⟨some 22, .move (.tmp 3), _, _, _, some (3, true)⟩) (v := .func (.func 124) #[] #[]) rfl (by kernel_rfl) (by kernel_rfl) (by kernel_rfl) (fun _ _ _ h => h) (Or.inl ⟨by rfl, fun w' hS => ?_⟩) HS.out ?_
            · clear hS; go_simp
            simp only [Act.put, List.setIfInBounds_toArray, List.set_cons_zero, List.set_cons_succ]
            refine wpAnyH_take (i := 5) (oi := ⟨some 23, .move (.tmp 0), _, _, _, some (3, true)⟩) (v := .slice (some ⟨g, 0, none⟩) 2 C) rfl (by kernel_rfl) (by kernel_rfl) (by kernel_rfl) (fun _ _ _ h => h) (Or.inl ⟨by rfl, fun w' hS => ?_⟩) HS.out ?_
            · clear hS; go_simp
            simp only [Act.put, List.setIfInBounds_toArray, List.set_cons_zero, List.set_cons_succ]
            refine wpAnyH_take (i := 6) (oi := ⟨some 24, .move (.tmp 9), _, _, _, some (3, true)⟩) (v := .int .i64 1) rfl (by kernel_rfl) (by kernel_rfl) (by kernel_rfl) (fun _ _ _ h => h) (Or.inl ⟨by rfl, fun w' hS => ?_⟩) HS.out ?_
            · clear hS; go_simp
            simp only [Act.put, List.setIfInBounds_toArray, List.set_cons_zero, List.set_cons_succ]
            refine wpAnyH_take (i := 7) (oi := ⟨some 25, .indexAddr 102 (.tmp 23) (.tmp 24), _, _, _, some (3, true)⟩) (v := .pointer (some ⟨g, 7, none⟩)) rfl (by kernel_rfl) (by kernel_rfl) (by kernel_rfl) (fun _ _ _ h => h) (Or.inl ⟨by rfl, fun w' hS => ?_⟩) HS.out ?_
            · clear hS; go_simp
            simp only [Act.put, List.setIfInBounds_toArray, List.set_cons_zero, List.set_cons_succ]
            refine wpAnyH_take (i := 8) (oi := ⟨some 26, .load 26 (.tmp 25), _, _, _, some (3, true)⟩) (v := .agg (pcC y.p y.V)) rfl (by kernel_rfl) (by kernel_rfl) (by kernel_rfl) (fun _ _ _ h => h) (Or.inl ⟨by rfl, fun w' hS => ?_⟩) HS.out ?_
            · exact exec_load (S := fun w => Two w g x y) 26 (.tmp 25) rfl (.agg (pcC y.p y.V)) ⟨g, 7, none⟩ rfl (fun w h => ld_two7 h) w' hS
            simp only [Act.put, List.setIfInBounds_toArray, List.set_cons_zero, List.set_cons_succ]
            refine wpAnyH_take (i := 9) (oi := ⟨some 27, .move (.tmp 0), _, _, _, some (3, true)⟩) (v := .slice (some ⟨g, 0, none⟩) 2 C) rfl (by kernel_rfl) (by kernel_rfl) (by kernel_rfl) (fun _ _ _ h => h) (Or.inl ⟨by rfl, fun w' hS => ?_⟩) HS.out ?_
            · clear hS; go_simp
            simp only [Act.put, List.setIfInBounds_toArray, List.set_cons_zero, List.set_cons_succ]
            refine wpAnyH_take (i := 10) (oi := ⟨some 28, .move (.tmp 9), _, _, _, some (3, true)⟩) (v := .int .i64 1) rfl (by kernel_rfl) (by kernel_rfl) (by kernel_rfl) (fun _ _ _ h => h) (Or.inl ⟨by rfl, fun w' hS => ?_⟩) HS.out ?_
            · clear hS; go_simp
            simp only [Act.put, List.setIfInBounds_toArray, List.set_cons_zero, List.set_cons_succ]
            refine wpAnyH_take (i := 11) (oi := ⟨some 29, .binOp .sub 3 (.tmp 28) (.const (.int .i64 1)) 3, _, _, _, some (3, true)⟩) (v := .int .i64 0) rfl (by kernel_rfl) (by kernel_rfl) (by kernel_rfl) (fun _ _ _ h => h) (Or.inl ⟨by rfl, fun w' hS => ?_⟩) HS.out ?_
            · clear hS; go_simp; first | done | decide
            simp only [Act.put, List.setIfInBounds_toArray, List.set_cons_zero, List.set_cons_succ]
            refine wpAnyH_take (i := 12) (oi := ⟨some 30, .indexAddr 102 (.tmp 27) (.tmp 29), _, _, _, some (3, true)⟩) (v := .pointer (some ⟨g, 0, none⟩)) rfl (by kernel_rfl) (by kernel_rfl) (by kernel_rfl) (fun _ _ _ h => h) (Or.inl ⟨by rfl, fun w' hS => ?_⟩) HS.out ?_
            · clear hS; go_simp
            simp only [Act.put, List.setIfInBounds_toArray, List.set_cons_zero, List.set_cons_succ]
            refine wpAnyH_take (i := 13) (oi := ⟨some 31, .load 26 (.tmp 30), _, _, _, some (3, true)⟩) (v := .agg (pcC x.p x.V)) rfl (by kernel_rfl) (by kernel_rfl) (by kernel_rfl) (fun _ _ _ h => h) (Or.inl ⟨by rfl, fun w' hS => ?_⟩) HS.out ?_
            · exact exec_load (S := fun w => Two w g x y) 26 (.tmp 30) rfl (.agg (pcC x.p x.V)) ⟨g, 0, none⟩ rfl (fun w h => ld_two0 h) w' hS
            simp only [Act.put, List.setIfInBounds_toArray, List.set_cons_zero, List.set_cons_succ]
            refine wpAnyH_ready (rs := [14]) (by kernel_rfl) (by simp) ?_
            refine AllReadyH.cons rfl (fun K hK => ?_) AllReadyH.nil
            go_simp
            refine (toldCmp_any y.p x.p y.V x.V _).mono ?_
            rintro e w2 ⟨rfl, hc2⟩
            rw [HCM.out]
            have HC2 := Lib.hid ((Ch.refl (fun _ => False) wr).drew.trans hc2)
            have HT2 := Lib.hid (HT.out.gr HC2.out)
            clear hc2
            dsimp only
            refine hK.out _ _ HT2.out (fun _ => ?_)
            clear hK K
            refine wpAnyH_take (i := 15) (oi := ⟨some 33, .binOp .lss 3 (.tmp 32) (.const (.int .i64 0)) 3, _, _, _, some (3, true)⟩) (v := .bool true) rfl (by kernel_rfl) (by kernel_rfl) (by kernel_rfl) (fun _ _ _ h => h) (Or.inl ⟨by rfl, fun w' hS => ?_⟩) HT2.out ?_
            · clear hS; go_simp
            simp only [Act.put, List.setIfInBounds_toArray, List.set_cons_zero, List.set_cons_succ]
            refine wpAnyH_take (i := 16) (oi := ⟨some 34, .pick (.tmp 21) (.tmp 33) (.const (.bool false)), _, _, _, none⟩) (v := .bool true) rfl (by kernel_rfl) (by kernel_rfl) (by kernel_rfl) (fun _ _ _ h => h) (Or.inl ⟨by rfl, fun w' hS => ?_⟩) HT2.out ?_
            · clear hS; go_simp
            simp only [Act.put, List.setIfInBounds_toArray, List.set_cons_zero, List.set_cons_succ]
            refine wpAnyH_done (by kernel_rfl) ?_ _
            go_wp2
            have HG2 := Lib.hid ((HC2.out.block g (blk_lt HGB.out) (fun f => f)).trans HGB.out)
            obtain ⟨wb, w3, hsw⟩ := swP (w := w2.drew) HT2.out.drew HG2.out HX.out HY.out
            have HSW := Lib.hid hsw
            have HSB := Lib.hid (show SrtSt wr w3 g x y from ⟨((HC2.out.drew).mono fun _ _ f => f.elim).trans hsw.ch, by rw [if_pos HQ.out]; exact hsw.two⟩)
            have HS3 := Lib.hid (show Two w2.drew g x y from HT2.out.drew)
            clear hsw
            refine wp_region_any (by kernel_rfl) ?_
            change wpAny _ _ _ _ _ _ _ (World.drew _)
            refine wpAny_take (i := 0) (oi := ⟨some 37, .move (.tmp 0), _, _, _, none⟩) (v := .slice (some ⟨g, 0, none⟩) 2 C) rfl (by kernel_rfl) (by kernel_rfl) (by kernel_rfl) (fun _ _ _ h => h) (Or.inl ⟨by rfl, fun w' => ?_⟩) ?_
            · go_simp
            simp only [Act.put, List.setIfInBounds_toArray, List.set_cons_zero, List.set_cons_succ]
            refine wpAny_take (i := 1) (oi := ⟨some 38, .move (.tmp 9), _, _, _, none⟩) (v := .int .i64 1) rfl (by kernel_rfl) (by kernel_rfl) (by kernel_rfl) (fun _ _ _ h => h) (Or.inl ⟨by rfl, fun w' => ?_⟩) ?_
            · go_simp
            simp only [Act.put, List.setIfInBounds_toArray, List.set_cons_zero, List.set_cons_succ]
            refine wpAny_take (i := 2) (oi := ⟨some 39, .move (.tmp 0), _, _, _, none⟩) (v := .slice (some ⟨g, 0, none⟩) 2 C) rfl (by kernel_rfl) (by kernel_rfl) (by kernel_rfl) (fun _ _ _ h => h) (Or.inl ⟨by rfl, fun w' => ?_⟩) ?_
            · go_simp
            simp only [Act.put, List.setIfInBounds_toArray, List.set_cons_zero, List.set_cons_succ]
            refine wpAny_take (i := 3) (oi := ⟨some 40, .move (.tmp 9), _, _, _, none⟩) (v := .int .i64 1) rfl (by kernel_rfl) (by kernel_rfl) (by kernel_rfl) (fun _ _ _ h => h) (Or.inl ⟨by rfl, fun w' => ?_⟩) ?_
            · go_simp
            simp only [Act.put, List.setIfInBounds_toArray, List.set_cons_zero, List.set_cons_succ]
            refine wpAny_take (i := 4) (oi := ⟨some 41, .binOp .sub 3 (.tmp 40) (.const (.int .i64 1)) 3, _, _, _, none⟩) (v := .int .i64 0) rfl (by kernel_rfl) (by kernel_rfl) (by kernel_rfl) (fun _ _ _ h => h) (Or.inl ⟨by rfl, fun w' => ?_⟩) ?_
            · go_simp; first | done | decide
            simp only [Act.put, List.setIfInBounds_toArray, List.set_cons_zero, List.set_cons_succ]
            refine wpAny_take (i := 5) (oi := ⟨some 42, .move (.tmp 0), _, _, _, none⟩) (v := .slice (some ⟨g, 0, none⟩) 2 C) rfl (by kernel_rfl) (by kernel_rfl) (by kernel_rfl) (fun _ _ _ h => h) (Or.inl ⟨by rfl, fun w' => ?_⟩) ?_
            · go_simp
            simp only [Act.put, List.setIfInBounds_toArray, List.set_cons_zero, List.set_cons_succ]
            refine wpAny_take (i := 6) (oi := ⟨some 43, .move (.tmp 9), _, _, _, none⟩) (v := .int .i64 1) rfl (by kernel_rfl) (by kernel_rfl) (by kernel_rfl) (fun _ _ _ h => h) (Or.inl ⟨by rfl, fun w' => ?_⟩) ?_
            · go_simp
            simp only [Act.put, List.setIfInBounds_toArray, List.set_cons_zero, List.set_cons_succ]
            refine wpAny_take (i := 7) (oi := ⟨some 44, .binOp .sub 3 (.tmp 43) (.const (.int .i64 1)) 3, _, _, _, none⟩) (v := .int .i64 0) rfl (by kernel_rfl) (by kernel_rfl) (by kernel_rfl) (fun _ _ _ h => h) (Or.inl ⟨by rfl, fun w' => ?_⟩) ?_
            · go_simp; first | done | decide
            simp only [Act.put, List.setIfInBounds_toArray, List.set_cons_zero, List.set_cons_succ]
            refine wpAny_take (i := 8) (oi := ⟨some 45, .indexAddr 102 (.tmp 42) (.tmp 44), _, _, _, none⟩) (v := .pointer (some ⟨g, 0, none⟩)) rfl (by kernel_rfl) (by kernel_rfl) (by kernel_rfl) (fun _ _ _ h => h) (Or.inl ⟨by rfl, fun w' => ?_⟩) ?_
            · go_simp
            simp only [Act.put, List.setIfInBounds_toArray, List.set_cons_zero, List.set_cons_succ]
            refine wpAny_take (i := 10) (oi := ⟨some 47, .move (.tmp 0), _, _, _, none⟩) (v := .slice (some ⟨g, 0, none⟩) 2 C) rfl (by kernel_rfl) (by kernel_rfl) (by kernel_rfl) (fun _ _ _ h => h) (Or.inl ⟨by rfl, fun w' => ?_⟩) ?_
            · go_simp
            simp only [Act.put, List.setIfInBounds_toArray, List.set_cons_zero, List.set_cons_succ]
            refine wpAny_take (i := 11) (oi := ⟨some 48, .move (.tmp 9), _, _, _, none⟩) (v := .int .i64 1) rfl (by kernel_rfl) (by kernel_rfl) (by kernel_rfl) (fun _ _ _ h => h) (Or.inl ⟨by rfl, fun w' => ?_⟩) ?_
            · go_simp
            simp only [Act.put, List.setIfInBounds_toArray, List.set_cons_zero, List.set_cons_succ]
            refine wpAny_take (i := 12) (oi := ⟨some 49, .indexAddr 102 (.tmp 47) (.tmp 48), _, _, _, none⟩) (v := .pointer (some ⟨g, 7, none⟩)) rfl (by kernel_rfl) (by kernel_rfl) (by kernel_rfl) (fun _ _ _ h => h) (Or.inl ⟨by rfl, fun w' => ?_⟩) ?_
            · go_simp
            simp only [Act.put, List.setIfInBounds_toArray, List.set_cons_zero, List.set_cons_succ]
            refine wpAny_ready (rs := [9, 13]) (by kernel_rfl) (by simp) ?_
            refine AllReady.cons rfl (fun K hK => ?_) (AllReady.cons rfl (fun K hK => ?_) AllReady.nil)
            · replace hK := Lib.hid hK
              refine step_loading (o := ⟨some 46, .load 26 (.tmp 45), _, _, _, none⟩) rfl 26 (.tmp 45) rfl (.agg (pcC x.p x.V)) ⟨g, 0, none⟩ rfl (ld_two0 HS3.out) ?_
              refine hK.out _ _ ?_
              clear hK K
              simp only [Act.put, List.setIfInBounds_toArray, List.set_cons_zero, List.set_cons_succ]
              refine wpAny_ready (rs := [13]) (by kernel_rfl) (by simp) ?_
              refine AllReady.cons rfl (fun K hK => ?_) AllReady.nil
              replace hK := Lib.hid hK
              refine step_loading (o := ⟨some 50, .load 26 (.tmp 49), _, _, _, none⟩) rfl 26 (.tmp 49) rfl (.agg (pcC y.p y.V)) ⟨g, 7, none⟩ rfl (ld_two7 HS3.out) ?_
              refine hK.out _ _ ?_
              clear hK K
              simp only [Act.put, List.setIfInBounds_toArray, List.set_cons_zero, List.set_cons_succ]
              refine wpAny_take (i := 14) (oi := ⟨some 51, .indexAddr 102 (.tmp 37) (.tmp 38), _, _, _, none⟩) (v := .pointer (some ⟨g, 7, none⟩)) rfl (by kernel_rfl) (by kernel_rfl) (by kernel_rfl) (fun _ _ _ h => h) (Or.inl ⟨by rfl, fun w' => ?_⟩) ?_
              · go_simp
              simp only [Act.put, List.setIfInBounds_toArray, List.set_cons_zero, List.set_cons_succ]
              refine wpAny_ready (rs := [15]) (by kernel_rfl) (by simp) ?_
              refine AllReady.cons rfl (fun K hK => ?_) AllReady.nil
              replace hK := Lib.hid hK
              refine step_storing (o := ⟨none, .store 26 (.tmp 51) (.tmp 46), _, _, _, none⟩) wb rfl 26 (.tmp 51) (.tmp 46) rfl (.agg (pcC x.p x.V)) ⟨g, 7, none⟩ rfl rfl HSW.out.s1 ?_
              refine hK.out _ _ ?_
              clear hK K
              simp only [Act.put]
              refine wpAny_take (i := 16) (oi := ⟨some 52, .indexAddr 102 (.tmp 39) (.tmp 41), _, _, _, none⟩) (v := .pointer (some ⟨g, 0, none⟩)) rfl (by kernel_rfl) (by kernel_rfl) (by kernel_rfl) (fun _ _ _ h => h) (Or.inl ⟨by rfl, fun w' => ?_⟩) ?_
              · go_simp
              simp only [Act.put, List.setIfInBounds_toArray, List.set_cons_zero, List.set_cons_succ]
              refine wpAny_ready (rs := [17]) (by kernel_rfl) (by simp) ?_
              refine AllReady.cons rfl (fun K hK => ?_) AllReady.nil
              replace hK := Lib.hid hK
              refine step_storing (o := ⟨none, .store 26 (.tmp 52) (.tmp 50), _, _, _, none⟩) w3 rfl 26 (.tmp 52) (.tmp 50) rfl (.agg (pcC y.p y.V)) ⟨g, 0, none⟩ rfl rfl HSW.out.s2 ?_
              refine hK.out _ _ ?_
              clear hK K
              refine wpAny_done (by kernel_rfl) ?_ _
              go_wp2
              go_roundw
              case rel => exact Or.inr ⟨by go_num, HSB⟩
              case measure => simp [intOf]
            · replace hK := Lib.hid hK
              refine step_loading (o := ⟨some 50, .load 26 (.tmp 49), _, _, _, none⟩) rfl 26 (.tmp 49) rfl (.agg (pcC y.p y.V)) ⟨g, 7, none⟩ rfl (ld_two7 HS3.out) ?_
              refine hK.out _ _ ?_
              clear hK K
              simp only [Act.put, List.setIfInBounds_toArray, List.set_cons_zero, List.set_cons_succ]
              refine wpAny_ready (rs := [9]) (by kernel_rfl) (by simp) ?_
              refine AllReady.cons rfl (fun K hK => ?_) AllReady.nil
              replace hK := Lib.hid hK
              refine step_loading (o := ⟨some 46, .load 26 (.tmp 45), _, _, _, none⟩) rfl 26 (.tmp 45) rfl (.agg (pcC x.p x.V)) ⟨g, 0, none⟩ rfl (ld_two0 HS3.out) ?_
              refine hK.out _ _ ?_
              clear hK K
              simp only [Act.put, List.setIfInBounds_toArray, List.set_cons_zero, List.set_cons_succ]
              refine wpAny_take (i := 14) (oi := ⟨some 51, .indexAddr 102 (.tmp 37) (.tmp 38), _, _, _, none⟩) (v := .pointer (some ⟨g, 7, none⟩)) rfl (by kernel_rfl) (by kernel_rfl) (by kernel_rfl) (fun _ _ _ h => h) (Or.inl ⟨by rfl, fun w' => ?_⟩) ?_
              · go_simp
              simp only [Act.put, List.setIfInBounds_toArray, List.set_cons_zero, List.set_cons_succ]
              refine wpAny_ready (rs := [15]) (by kernel_rfl) (by simp) ?_
              refine AllReady.cons rfl (fun K hK => ?_) AllReady.nil
              replace hK := Lib.hid hK
              refine step_storing (o := ⟨none, .store 26 (.tmp 51) (.tmp 46), _, _, _, none⟩) wb rfl 26 (.tmp 51) (.tmp 46) rfl (.agg (pcC x.p x.V)) ⟨g, 7, none⟩ rfl rfl HSW.out.s1 ?_
              refine hK.out _ _ ?_
              clear hK K
              simp only [Act.put]
              refine wpAny_take (i := 16) (oi := ⟨some 52, .indexAddr 102 (.tmp 39) (.tmp 41), _, _, _, none⟩) (v := .pointer (some ⟨g, 0, none⟩)) rfl (by kernel_rfl) (by kernel_rfl) (by kernel_rfl) (fun _ _ _ h => h) (Or.inl ⟨by rfl, fun w' => ?_⟩) ?_
              · go_simp
              simp only [Act.put, List.setIfInBounds_toArray, List.set_cons_zero, List.set_cons_succ]
              refine wpAny_ready (rs := [17]) (by kernel_rfl) (by simp) ?_
              refine AllReady.cons rfl (fun K hK => ?_) AllReady.nil
              replace hK := Lib.hid hK
              refine step_storing (o := ⟨none, .store 26 (.tmp 52) (.tmp 50), _, _, _, none⟩) w3 rfl 26 (.tmp 52) (.tmp 50) rfl (.agg (pcC y.p y.V)) ⟨g, 0, none⟩ rfl rfl HSW.out.s2 ?_
              refine hK.out _ _ ?_
              clear hK K
              refine wpAny_done (by kernel_rfl) ?_ _
              go_wp2
              go_roundw
              case rel => exact Or.inr ⟨by go_num, HSB⟩
              case measure => simp [intOf]
          · have HQ := Lib.hid q
            obtain ⟨M, hM⟩ : ∃ M, M = cmpI x.p.ep y.p.ep := ⟨_, rfl⟩
            have HCM := Lib.hid hM.symm
            have HCN := Lib.hid (show 0 ≤ M by rw [hM]; unfold cmpI; rw [if_neg q]; split <;> decide)
            clear q hM
            have HS := Lib.hid (show Two wr.drew g x y from HT.out.drew)
            go_upto_region 4 with fail
            refine wp_region_held (S := fun w => Two w g x y) (by kernel_rfl) ?_
            change wpAnyH _ _ _ _ _ _ _ _ (World.drew _)
            refine wpAnyH_take (i := 0) (oi := ⟨some 18, .move (.tmp 9), _, _, _, none⟩) (v := .int .i64 1) rfl (by kernel_rfl) (by kernel_rfl) (by kernel_rfl) (fun _ _ _ h => h) (Or.inl ⟨by rfl, fun w' hS => ?_⟩) HS.out ?_
            · clear hS; go_simp
            simp only [Act.put, List.setIfInBounds_toArray, List.set_cons_zero, List.set_cons_succ]
            refine wpAnyH_take (i := 1) (oi := ⟨some 19, .move (.tmp 1), _, _, _, none⟩) (v := .int .i64 0) rfl (by kernel_rfl) (by kernel_rfl) (by kernel_rfl) (fun _ _ _ h => h) (Or.inl ⟨by rfl, fun w' hS => ?_⟩) HS.out ?_
            · clear hS; go_simp
            simp only [Act.put, List.setIfInBounds_toArray, List.set_cons_zero, List.set_cons_succ]
            refine wpAnyH_take (i := 2) (oi := ⟨some 20, .binOp .gtr 3 (.tmp 18) (.tmp 19) 3, _, _, _, none⟩) (v := .bool true) rfl (by kernel_rfl) (by kernel_rfl) (by kernel_rfl) (fun _ _ _ h => h) (Or.inl ⟨by rfl, fun w' hS => ?_⟩) HS.out ?_
            · clear hS; go_simp
            simp only [Act.put, List.setIfInBounds_toArray, List.set_cons_zero, List.set_cons_succ]
            refine wpAnyH_take (i := 3) (oi := ⟨some 21, .move (.tmp 20), _, _, _, none⟩) (v := .bool true) rfl (by kernel_rfl) (by kernel_rfl) (by kernel_rfl) (fun _ _ _ h => h) (Or.inl ⟨by rfl, fun w' hS => ?_⟩) HS.out ?_
            · clear hS; go_simp
            simp only [Act.put, List.setIfInBounds_toArray, List.set_cons_zero, List.set_cons_succ]
            refine wpAnyH_take (i := 4) (oi := ⟨some 22, .move (.tmp 3), _, _, _, some (3, true)⟩) (v := .func (.func 124) #[] #[]) rfl (by kernel_rfl) (by kernel_rfl) (by kernel_rfl) (fun _ _ _ h => h) (Or.inl ⟨by rfl, fun w' hS => ?_⟩) HS.out ?_
            · clear hS; go_simp
            simp only [Act.put, List.setIfInBounds_toArray, List.set_cons_zero, List.set_cons_succ]
            refine wpAnyH_take (i := 5) (oi := ⟨some 23, .move (.tmp 0), _, _, _, some (3, true)⟩) (v := .slice (some ⟨g, 0, none⟩) 2 C) rfl (by kernel_rfl) (by kernel_rfl) (by kernel_rfl) (fun _ _ _ h => h) (Or.inl ⟨by rfl, fun w' hS => ?_⟩) HS.out ?_
            · clear hS; go_simp
            simp only [Act.put, List.setIfInBounds_toArray, List.set_cons_zero, List.set_cons_succ]
            refine wpAnyH_take (i := 6) (oi := ⟨some 24, .move (.tmp 9), _, _, _, some (3, true)⟩) (v := .int .i64 1) rfl (by kernel_rfl) (by kernel_rfl) (by kernel_rfl) (fun _ _ _ h => h) (Or.inl ⟨by rfl, fun w' hS => ?_⟩) HS.out ?_
            · clear hS; go_simp
            simp only [Act.put, List.setIfInBounds_toArray, List.set_cons_zero, List.set_cons_succ]
            refine wpAnyH_take (i := 7) (oi := ⟨some 25, .indexAddr 102 (.tmp 23) (.tmp 24), _, _, _, some (3, true)⟩) (v := .pointer (some ⟨g, 7, none⟩)) rfl (by kernel_rfl) (by kernel_rfl) (by kernel_rfl) (fun _ _ _ h => h) (Or.inl ⟨by rfl, fun w' hS => ?_⟩) HS.out ?_
            · clear hS; go_simp
            simp only [Act.put, List.setIfInBounds_toArray, List.set_cons_zero, List.set_cons_succ]
            refine wpAnyH_take (i := 8) (oi := ⟨some 26, .load 26 (.tmp 25), _, _, _, some (3, true)⟩) (v := .agg (pcC y.p y.V)) rfl (by kernel_rfl) (by kernel_rfl) (by kernel_rfl) (fun _ _ _ h => h) (Or.inl ⟨by rfl, fun w' hS => ?_⟩) HS.out ?_
            · exact exec_load (S := fun w => Two w g x y) 26 (.tmp 25) rfl (.agg (pcC y.p y.V)) ⟨g, 7, none⟩ rfl (fun w h => ld_two7 h) w' hS
            simp only [Act.put, List.setIfInBounds_toArray, List.set_cons_zero, List.set_cons_succ]
            refine wpAnyH_take (i := 9) (oi := ⟨some 27, .move (.tmp 0), _, _, _, some (3, true)⟩) (v := .slice (some ⟨g, 0, none⟩) 2 C) rfl (by kernel_rfl) (by kernel_rfl) (by kernel_rfl) (fun _ _ _ h => h) (Or.inl ⟨by rfl, fun w' hS => ?_⟩) HS.out ?_
            · clear hS; go_simp
            simp only [Act.put, List.setIfInBounds_toArray, List.set_cons_zero, List.set_cons_succ]
            refine wpAnyH_take (i := 10) (oi := ⟨some 28, .move (.tmp 9), _, _, _, some (3, true)⟩) (v := .int .i64 1) rfl (by kernel_rfl) (by kernel_rfl) (by kernel_rfl) (fun _ _ _ h => h) (Or.inl ⟨by rfl, fun w' hS => ?_⟩) HS.out ?_
            · clear hS; go_simp
            simp only [Act.put, List.setIfInBounds_toArray, List.set_cons_zero, List.set_cons_succ]
            refine wpAnyH_take (i := 11) (oi := ⟨some 29, .binOp .sub 3 (.tmp 28) (.const (.int .i64 1)) 3, _, _, _, some (3, true)⟩) (v := .int .i64 0) rfl (by kernel_rfl) (by kernel_rfl) (by kernel_rfl) (fun _ _ _ h => h) (Or.inl ⟨by rfl, fun w' hS => ?_⟩) HS.out ?_
            · clear hS; go_simp; first | done | decide
            simp only [Act.put, List.setIfInBounds_toArray, List.set_cons_zero, List.set_cons_succ]
            refine wpAnyH_take (i := 12) (oi := ⟨some 30, .indexAddr 102 (.tmp 27) (.tmp 29), _, _, _, some (3, true)⟩) (v := .pointer (some ⟨g, 0, none⟩)) rfl (by kernel_rfl) (by kernel_rfl) (by kernel_rfl) (fun _ _ _ h => h) (Or.inl ⟨by rfl, fun w' hS => ?_⟩) HS.out ?_
            · clear hS; go_simp
            simp only [Act.put, List.setIfInBounds_toArray, List.set_cons_zero, List.set_cons_succ]
            refine wpAnyH_take (i := 13) (oi := ⟨some 31, .load 26 (.tmp 30), _, _, _, some (3, true)⟩) (v := .agg (pcC x.p x.V)) rfl (by kernel_rfl) (by kernel_rfl) (by kernel_rfl) (fun _ _ _ h => h) (Or.inl ⟨by rfl, fun w' hS => ?_⟩) HS.out ?_
            · exact exec_load (S := fun w => Two w g x y) 26 (.tmp 30) rfl (.agg (pcC x.p x.V)) ⟨g, 0, none⟩ rfl (fun w h => ld_two0 h) w' hS
            simp only [Act.put, List.setIfInBounds_toArray, List.set_cons_zero, List.set_cons_succ]
            refine wpAnyH_ready (rs := [14]) (by kernel_rfl) (by simp) ?_
            refine AllReadyH.cons rfl (fun K hK => ?_) AllReadyH.nil
            go_simp
            refine (toldCmp_any y.p x.p y.V x.V _).mono ?_
            rintro e w2 ⟨rfl, hc2⟩
            rw [HCM.out]
            have HC2 := Lib.hid ((Ch.refl (fun _ => False) wr).drew.trans hc2)
            have HT2 := Lib.hid (HT.out.gr HC2.out)
            clear hc2
            dsimp only
            refine hK.out _ _ HT2.out (fun _ => ?_)
            clear hK K
            refine wpAnyH_take (i := 15) (oi := ⟨some 33, .binOp .lss 3 (.tmp 32) (.const (.int .i64 0)) 3, _, _, _, some (3, true)⟩) (v := .bool false) rfl (by kernel_rfl) (by kernel_rfl) (by kernel_rfl) (fun _ _ _ h => h) (Or.inl ⟨by rfl, fun w' hS => ?_⟩) HT2.out ?_
            · clear hS; go_simp; first | done | exact HCN.out
            simp only [Act.put, List.setIfInBounds_toArray, List.set_cons_zero, List.set_cons_succ]
            refine wpAnyH_take (i := 16) (oi := ⟨some 34, .pick (.tmp 21) (.tmp 33) (.const (.bool false)), _, _, _, none⟩) (v := .bool false) rfl (by kernel_rfl) (by kernel_rfl) (by kernel_rfl) (fun _ _ _ h => h) (Or.inl ⟨by rfl, fun w' hS => ?_⟩) HT2.out ?_
            · clear hS; go_simp
            simp only [Act.put, List.setIfInBounds_toArray, List.set_cons_zero, List.set_cons_succ]
            refine wpAnyH_done (by kernel_rfl) ?_ _
            have HSB := Lib.hid (show SrtSt wr w2 g x y from ⟨HC2.out.mono fun _ _ f => f.elim, by rw [if_neg HQ.out]; exact HT2.out⟩)
            go_wp2
            go_roundw
            case rel => exact Or.inr ⟨by go_num, HSB⟩
            case measure => simp [intOf]
        · go_upto_region 4 with fail
          go_quiet (fail)
          have HSB := Lib.hid (show SrtSt wo (wr.drewN nq) g x y from ⟨HS2.out.1.drewN nq, by have h := HS2.out.2; by_cases q : x.p.ep < y.p.ep <;> simp only [q, if_true, if_false] at h ⊢ <;> exact h.gr ((Ch.refl _ wr).drewN nq)⟩)
          go_wp2
          go_roundw
          case rel => exact Or.inr ⟨by go_num, HSB⟩
          case measure => simp [intOf]
    · go_wp2
      go_end0
      exact ⟨rfl, HS2.out⟩
set_option maxHeartbeats 3200000 in
theorem stable_few (A : Option Addr) (n C : Nat) (F : Value) (hn : n ≤ 2) (w : World) (R : World → Prop)
    (h : Calls Tryz.prog 139 #[.slice A n C, .int .i64 0, .int .i64 (n : Int), .func (.func 124) #[] #[]] w fun e w' => e = .returned (.tuple #[]) ∧ R w') :
    Calls Tryz.prog 123 #[.slice A n C, .func (.func 124) #[] #[]] w fun e w' => e = .returned (.tuple #[]) ∧ R w' := by
  have H := Lib.hid h
  have t1 : decide ((20 : Int) ≤ (n : Int)) = false := by simp; omega
  have t2 : decide ((20 : Int) < (n : Int)) = false := by simp; omega
  have hST : Calls Tryz.prog 133 #[.slice A n C, .int .i64 (n : Int), .func (.func 124) #[] #[]] w fun e w' => e = .returned (.tuple #[]) ∧ R w' := by
    go_enter Tryz.func133, Tryz.ntmps133
    go_wp2
    go_loopw [7, 8] (fun b c wr => b = .int .i64 0 ∧ c = .int .i64 20 ∧ wr = w) (fun _ _ _ => 0)
    case atStart => exact ⟨rfl, rfl, rfl⟩
    case round =>
      obtain ⟨rfl, rfl, rfl⟩ := hrel
      go_wp2_with (go_at_call 139; refine H.out.mono ?_; rintro e w2 ⟨rfl, hr⟩)
      have HR := Lib.hid hr
      clear hr
      go_loopw [6] (fun a wr2 => a = .int .i64 20 ∧ wr2 = w2) (fun _ _ => 0)
      case atStart => exact ⟨rfl, rfl⟩
      case round =>
        obtain ⟨rfl, rfl⟩ := hrel
        go_wp2
        go_end0
        exact ⟨rfl, HR.out⟩
  have HS := Lib.hid hST
  clear hST h
  go_enter Tryz.func123, Tryz.ntmps123
  go_wp2_with (go_at_call 133; refine HS.out.mono ?_; rintro e w2 ⟨rfl, hr⟩)
  go_end0
  exact ⟨rfl, hr⟩
end Go.Proofs.YteleknojohnlbaaGreat
