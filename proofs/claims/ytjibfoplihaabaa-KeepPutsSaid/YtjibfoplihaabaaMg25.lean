/-
  The document's own device (quartermasterref06), walked: dies, does. The document's own device (quartermasterref06), walked: Read, Flush, Crash.
-/
import Derived.Test.YtjibfoplihaabaaMg24
namespace Go.Proofs.Ytjibfoplihaabaa
open Go.RowKit
set_option linter.unusedVariables false
set_option maxRecDepth 100000

/-! ### dies -/
theorem wrap_in (x : Int) : I64 (wrap64 x) := by unfold I64 wrap64; omega
theorem RefIs.chB {base : Nat} {F : Nat → Prop} {w : World} {q : Rh} {d : Dev} (h : RefIs base F w q d) (i : Nat) (v : Value) : Ch F w (w.setCell ⟨q.B, i, none⟩ v) := (Ch.refl F w).setCell (p := ⟨q.B, i, none⟩) (Or.inl h.fB) v
def DiesPost (base : Nat) (F : Nat → Prop) (q : Rh) (d : Dev) (w : World) (e : Ending) (w' : World) : Prop := e = .returned (.bool (diesB d)) ∧ ∃ l, RefIs base F w' { q with lf := l } (diesD d) ∧ Ch F w w'
set_option maxHeartbeats 800000 in
set_option maxRecDepth 100000 in
theorem rdies_any (base : Nat) (F : Nat → Prop) (q : Rh) (d : Dev) (w : World) (h : RefIs base F w q d) :
    Calls Try.prog 56 #[.pointer (some ⟨q.B, 0, none⟩)] w (DiesPost base F q d w) := by
  have c5 : w.cell? ⟨q.B, 5, none⟩ = some (.bool d.armed) := h.cellB 5
  have c6 : w.cell? ⟨q.B, 6, none⟩ = some (.bool d.dead) := h.cellB 6
  have c7 : w.cell? ⟨q.B, 7, none⟩ = some (.int .i64 q.lf) := h.cellB 7
  have f6 := h.frB 6
  have f7 := h.frB 7
  have hlf := h.lf
  unfold I64 at hlf
  cases ha : d.armed
  · have hS : diesB d = false ∧ diesD d = d := by unfold diesB diesD; rw [ha]; exact ⟨rfl, rfl⟩
    rw [ha] at c5
    have HP := Lib.hid (show DiesPost base F q d w (.returned (.bool false)) (w.setCell ⟨q.B, 7, none⟩ (.int .i64 (wrap64 (q.lf - 1)))) from ⟨by rw [hS.1], by
      rw [hS.2]
      exact ⟨_, h.setB 7 (.int .i64 (wrap64 (q.lf - 1))) d.dead d.armed d.left d.ops (wrap64 (q.lf - 1)) rfl (wrap_in _) (fun e => by rw [ha] at e; cases e), h.chB 7 _⟩⟩)
    obtain ⟨B, G, L, P, Q, cG, cL, cP, cQ, V, s, X, m, lf⟩ := q
    clear h hS
    go_enter Try.func56, Try.ntmps56
    go_wp2
    go_ret
    exact HP.out
  · obtain ⟨he, h0⟩ := h.lfa ha
    rw [ha] at c5
    by_cases hz : d.left = 0
    · have hS : diesB d = true ∧ diesD d = { d with dead := true } := by unfold diesB diesD; rw [ha, hz]; exact ⟨rfl, rfl⟩
      have HP := Lib.hid (show DiesPost base F q d w (.returned (.bool true)) (w.setCell ⟨q.B, 6, none⟩ (.bool true)) from ⟨by rw [hS.1], by
        rw [hS.2]
        exact ⟨q.lf, h.setB 6 (.bool true) true d.armed d.left d.ops q.lf rfl h.lf h.lfa, h.chB 6 _⟩⟩)
      rw [he, hz] at c7
      obtain ⟨B, G, L, P, Q, cG, cL, cP, cQ, V, s, X, m, lf⟩ := q
      clear h hS
      go_enter Try.func56, Try.ntmps56
      go_wp2
      go_ret
      exact HP.out
    · have hS : diesB d = false ∧ diesD d = { d with left := d.left - 1 } := by
        unfold diesB diesD
        rw [ha, if_pos rfl, if_pos (by omega), decide_eq_false (by omega)]
        exact ⟨rfl, rfl⟩
      have hw : wrap64 (q.lf - 1) = d.left - 1 := by unfold wrap64; rw [he]; rw [he] at hlf; omega
      have HP := Lib.hid (show DiesPost base F q d w (.returned (.bool false)) (w.setCell ⟨q.B, 7, none⟩ (.int .i64 (d.left - 1))) from ⟨by rw [hS.1], by
        rw [hS.2]
        exact ⟨_, h.setB 7 (.int .i64 (d.left - 1)) d.dead d.armed (d.left - 1) d.ops (d.left - 1) rfl (by rw [← hw]; exact wrap_in _) (fun _ => ⟨rfl, by omega⟩), h.chB 7 _⟩⟩)
      rw [he] at c7 hlf
      obtain ⟨lv, hlv⟩ : ∃ lv, lv = d.left := ⟨_, rfl⟩
      rw [← hlv] at HP he h0 hz c7 hlf
      have t2 : (lv == 0) = false := by simpa using hz
      obtain ⟨B, G, L, P, Q, cG, cL, cP, cQ, V, s, X, m, lf⟩ := q
      clear h hS hlv hw he
      go_enter Try.func56, Try.ntmps56
      go_wp2
      go_ret
      exact HP.out
#print axioms rdies_any

/-! ### does -/
theorem alloc2 (w : World) (a b : Value) (t : TypeId) : (w.alloc (.cells #[a, b] t)).cell? ⟨w.heap.size, 0, none⟩ = some a ∧ (w.alloc (.cells #[a, b] t)).cell? ⟨w.heap.size, 1, none⟩ = some b := ⟨alloc_cell w _ _ 0, alloc_cell w _ _ 1⟩
def DonePost (base : Nat) (F : Nat → Prop) (q : Rh) (d : Dev) (x : Wt) (v : Value) (w : World) (e : Ending) (w' : World) : Prop := e = .returned (.tuple #[]) ∧ RefIs base F w' { q with s := up q.s x.pl v } (finD d x) ∧ Ch F w w'
set_option maxHeartbeats 800000 in
set_option maxRecDepth 100000 in
theorem rdoes_any (base : Nat) (F : Nat → Prop) (q : Rh) (d : Dev) (x : Wt) (v : Value) (w : World) (h : RefIs base F w q d) (hx : x.pl < d.n) (hv : BRow w v x.z) (hF : ∀ i, v.ownBlock = some i → F i) :
    Calls Try.prog 53 #[.pointer (some ⟨q.B, 0, none⟩), .agg #[.int .i64 (x.pl : Int), v]] w (DonePost base F q d x v w) := by
  obtain ⟨vb, vo, vC, rfl⟩ := hv.form
  obtain ⟨H, hH⟩ : ∃ H, H = w.heap.size := ⟨_, rfl⟩
  obtain ⟨w1, hw1⟩ : ∃ w1, w1 = w.alloc (.cells #[.int .i64 (x.pl : Int), .slice (some ⟨vb, vo, none⟩) 256 vC] 102) := ⟨_, rfl⟩
  have k1 : Ch (fun _ => False) w w1 := by rw [hw1]; exact (Ch.refl _ w).alloc _ _
  have h1 := h.gr k1
  have c0 : w1.cell? ⟨q.B, 0, none⟩ = some (.slice (some ⟨q.G, 0, none⟩) d.n q.cG) := h1.cellB 0
  have x0 : w1.cell? ⟨H, 0, none⟩ = some (.int .i64 (x.pl : Int)) := by rw [hw1, hH]; exact (alloc2 w _ _ _).1
  have x1 : w1.cell? ⟨H, 1, none⟩ = some (.slice (some ⟨vb, vo, none⟩) 256 vC) := by rw [hw1, hH]; exact (alloc2 w _ _ _).2
  have cs : w1.cell? ⟨q.G, x.pl, none⟩ = some (q.s x.pl) := h1.cellS hx
  have fs := h1.sec.frozen x.pl
  have i1 : (0 : Int) ≤ (x.pl : Int) := Int.natCast_nonneg _
  have i2 : (x.pl : Int) < (d.n : Int) := by omega
  have HW1 := Lib.hid hw1.symm
  have HH := Lib.hid hH.symm
  have H1 := Lib.hid h1
  have HV := Lib.hid (hv.of (fun i hi => k1.block i (h.hi i (hF i hi)) (fun f => f)))
  have HFV := Lib.hid hF
  have HC1 := Lib.hid k1
  have HHF := Lib.hid (show ¬ F H from fun f => by have := h.hi _ f; omega)
  clear h h1 k1 hv hF hw1 hH
  obtain ⟨B, G, L, P, Q, cG, cL, cP, cQ, V, s, X, m, lf⟩ := q
  go_enter Try.func53, Try.ntmps53
  go_wp2_with ((with_reducible refine wpList_same ?_); refine wpList_boxing _ w1 rfl 102 (.tmp 1) rfl #[.int .i64 (x.pl : Int), .slice (some ⟨vb, vo, none⟩) 256 vC] H rfl (by exact HH.out) (by exact HW1.out) ?_)
  go_region
  go_wp2
  have h2 := (H1.out.setS (a := x.pl) _ x.z HV.out HFV.out).gr ((Ch.refl _ _).drew)
  have k2 : Ch F w1 (w1.setCell ⟨G, x.pl, none⟩ (.slice (some ⟨vb, vo, none⟩) 256 vC)).drew := ((Ch.refl F w1).setCell (p := ⟨G, x.pl, none⟩) (Or.inl H1.out.fG) _).drew
  obtain ⟨wd, hwd⟩ : ∃ wd, wd = (w1.setCell ⟨G, x.pl, none⟩ (.slice (some ⟨vb, vo, none⟩) 256 vC)).drew := ⟨_, rfl⟩
  rw [← hwd] at h2 k2
  rw [← hwd]
  have c1 : wd.cell? ⟨B, 1, none⟩ = some (.slice (some ⟨L, 0, none⟩) d.n cL) := h2.cellB 1
  have y0 : wd.cell? ⟨H, 0, none⟩ = some (.int .i64 (x.pl : Int)) := k2.cell x0 (fun f => HHF.out f)
  have cl : wd.cell? ⟨L, x.pl, none⟩ = some (.bool (d.lost x.pl)) := h2.cellL hx
  have fl := h2.los.frozen x.pl
  have HP := Lib.hid (show DonePost base F ⟨B, G, L, P, Q, cG, cL, cP, cQ, V, s, X, m, lf⟩ d x (.slice (some ⟨vb, vo, none⟩) 256 vC) w (.returned (.tuple #[])) (wd.setCell ⟨L, x.pl, none⟩ (.bool false)).drew from
    ⟨rfl, (h2.setL (a := x.pl) false).gr ((Ch.refl _ _).drew), ((HC1.out.mono fun _ _ f => f.elim).trans k2).trans (((Ch.refl F wd).setCell (p := ⟨L, x.pl, none⟩) (Or.inl h2.fL) _).drew)⟩)
  clear h2 k2 hwd x0 x1 c0 cs fs
  go_region
  all_goals (go_wp2; go_end0; exact HP.out)
#print axioms rdoes_any
end Go.Proofs.Ytjibfoplihaabaa
namespace Go.Proofs.Ytjibfoplihaabaa
open Go.RowKit
set_option linter.unusedVariables false
set_option maxRecDepth 100000

/-! ### Read -/
def RRead (base : Nat) (F : Nat → Prop) (q : Rh) (d : Dev) (a : Int) (w : World) (e : Ending) (w' : World) : Prop :=
  ∃ v, e = .returned (.tuple #[v, .int .i64 (readE d a)]) ∧ RefIs base F w' q (readD d a) ∧ RowV w' v (readL d a) (readZ d a) ∧ Ch F w w'
theorem RefIs.setOps {base : Nat} {F : Nat → Prop} {w : World} {q : Rh} {d : Dev} (h : RefIs base F w q d) (x : Nat) : RefIs base F (w.setCell ⟨q.B, 8, none⟩ (.int .i64 (x : Int))) q { d with ops := x } :=
  h.setB 8 (.int .i64 (x : Int)) d.dead d.armed d.left x q.lf rfl h.lf h.lfa
theorem RefIs.XL {base : Nat} {F : Nat → Prop} {w : World} {q : Rh} {d : Dev} (h : RefIs base F w q d) : q.X.length = d.W.length := by rw [← h.XW, List.length_map]
theorem RefIs.Wat {base : Nat} {F : Nat → Prop} {w : World} {q : Rh} {d : Dev} (h : RefIs base F w q d) {k : Nat} {y : Wt × Value} (hk : q.X[k]? = some y) : d.W[k]? = some y.1 := by rw [← h.XW, List.getElem?_map, hk]; rfl
set_option maxHeartbeats 800000 in
set_option maxRecDepth 100000 in
theorem rread_any (base : Nat) (F : Nat → Prop) (q : Rh) (d : Dev) (a : Int) (w : World) (h : RefIs base F w q d) (ho : d.ops ≤ 1152921504606846976) (hW : d.W.length ≤ 1048576) :
    Calls Try.prog 31 #[.pointer (some ⟨q.B, 0, none⟩), .int .i64 a] w (RRead base F q d a w) := by
  have c0 : w.cell? ⟨q.B, 0, none⟩ = some (.slice (some ⟨q.G, 0, none⟩) d.n q.cG) := h.cellB 0
  have c6 : w.cell? ⟨q.B, 6, none⟩ = some (.bool d.dead) := h.cellB 6
  have hnn := h.nn
  by_cases hop : openE d a = 0
  · obtain ⟨hd, k, rfl, hk⟩ := openE_ok hop
    rw [hd] at c6
    have c8 : w.cell? ⟨q.B, 8, none⟩ = some (.int .i64 (d.ops : Int)) := h.cellB 8
    have f8 := h.frB 8
    have h1 := h.setOps (d.ops + 1)
    have HC1 := Lib.hid (h.chB 8 (.int .i64 ((d.ops + 1 : Nat) : Int)))
    have HRD := Lib.hid (show readD d k = { d with ops := d.ops + 1 } by unfold readD; rw [if_pos hop])
    have eop : ((d.ops + 1 : Nat) : Int) = (d.ops : Int) + 1 := by omega
    rw [eop] at h1 HC1
    obtain ⟨w1, hw1⟩ : ∃ w1, w1 = w.setCell ⟨q.B, 8, none⟩ (.int .i64 ((d.ops : Int) + 1)) := ⟨_, rfl⟩
    rw [← hw1] at h1 HC1
    have HW1 := Lib.hid hw1.symm
    have d0 : w1.cell? ⟨q.B, 0, none⟩ = some (.slice (some ⟨q.G, 0, none⟩) d.n q.cG) := h1.cellB 0
    have d1 : w1.cell? ⟨q.B, 1, none⟩ = some (.slice (some ⟨q.L, 0, none⟩) d.n q.cL) := h1.cellB 1
    have d2 : w1.cell? ⟨q.B, 2, none⟩ = some q.V := h1.cellB 2
    have cs : w1.cell? ⟨q.G, k, none⟩ = some (q.s k) := h1.cellS hk
    have cl : w1.cell? ⟨q.L, k, none⟩ = some (.bool (d.lost k)) := h1.cellL hk
    have i1 : (0 : Int) ≤ (k : Int) := Int.natCast_nonneg _
    have i2 : (k : Int) < (d.n : Int) := by omega
    obtain ⟨A, C, hV⟩ := h.vform
    obtain ⟨L, hL⟩ : ∃ L, L = q.X.length := ⟨_, rfl⟩
    have hLW : L ≤ 1048576 := by rw [hL, h.XL]; exact hW
    rw [← hL] at hV
    rw [hV] at d2
    obtain ⟨sb, so, sC, hs⟩ := (h1.srow k hk).form
    rw [hs] at cs
    have hfin : ∀ (v : Value) (z : Nat → Nat), readE d k = 0 → readZ d k = z → RowV w1 v 256 z → RRead base F q d k w (.returned (.tuple #[v, .int .i64 0])) w1 := fun v z e1 e2 e3 =>
      ⟨v, by rw [e1], by rw [HRD.out]; exact h1, by rw [show readL d k = 256 by unfold readL; rw [if_pos e1], e2]; exact e3, HC1.out⟩
    have HFIN := Lib.hid hfin
    have HSR := Lib.hid (h1.srow k hk).row
    rw [hs] at HSR
    have HK := Lib.hid hk
    have H1 := Lib.hid h1
    have HOP := Lib.hid hop
    have HV := Lib.hid hV
    have HL := Lib.hid hL
    have HW2 : w.setCell ⟨q.B, 8, none⟩ (.int .i64 ((d.ops : Int) + 1)) = w1 := hw1.symm
    obtain ⟨B, G, L', P, Q, cG, cL, cP, cQ, V, s, X, m, lf⟩ := q
    clear h h1 hw1 hV hop hk eop hfin hs hd hL hW
    go_enter Try.func31, Try.ntmps31
    go_wp2_with fail
    clear HW2 HW1
    go_loopw [6] (fun i wr => ∃ j : Nat, j ≤ L ∧ i = .int .i64 ((j : Int) - 1) ∧ Hid (scan d.W k j = lastW d.W k) ∧ wr = w1) (fun i _ => (intOf i + 1).toNat)
    case atStart => exact ⟨L, Nat.le_refl _, rfl, Lib.hid (by unfold lastW; rw [HL.out, H1.out.XL]), rfl⟩
    case round =>
      obtain ⟨j, hj, rfl, HJ, rfl⟩ := hrel
      cases j with
      | zero =>
        have HE0 := Lib.hid (show (none : Option Wt) = lastW d.W k from HJ.out)
        cases hlo : d.lost k
        · rw [hlo] at cl
          have hE : readE d k = 0 := by unfold readE; rw [if_pos HOP.out, Int.toNat_natCast, ← HE0.out, hlo]; rfl
          have hZ : readZ d k = d.has k := by unfold readZ; rw [Int.toNat_natCast, ← HE0.out]
          have HP := Lib.hid (HFIN.out _ _ hE hZ HSR.out)
          clear hE hZ hlo hj
          go_wp2
          go_ret2
          exact HP.out
        · rw [hlo] at cl
          have hE : readE d k = 20 := by unfold readE; rw [if_pos HOP.out, Int.toNat_natCast, ← HE0.out, hlo]; rfl
          have HP := Lib.hid (show RRead base F ⟨B, G, L', P, Q, cG, cL, cP, cQ, V, s, X, m, lf⟩ d k w (.returned (.tuple #[.slice none 0 0, .int .i64 20])) wr from
            ⟨_, by rw [hE], by rw [HRD.out]; exact H1.out, by rw [show readL d k = 0 by unfold readL; rw [hE]; rfl]; exact nil_row _ _, HC1.out⟩)
          clear hE hlo hj
          go_wp2
          go_ret2
          exact HP.out
      | succ j =>
        have ej : ((j + 1 : Nat) : Int) - 1 = (j : Int) := by omega
        rw [ej]
        obtain ⟨y, hy⟩ : ∃ y, X[j]? = some y := ⟨_, List.getElem?_eq_getElem (by rw [← HL.out]; omega)⟩
        obtain ⟨g, cap, hv, x0, x1⟩ := H1.out.wt (k := j) (y := y) hy
        have hv2 := HV.out.symm.trans hv
        injection hv2 with q1 q2 q3
        subst q1
        subst q3
        have i3 : (0 : Int) ≤ (j : Int) := Int.natCast_nonneg _
        have i4 : (j : Int) < (L : Int) := by omega
        have hxr := H1.out.xrow y (List.mem_of_getElem? hy)
        have hwy : d.W[j]? = some y.1 := H1.out.Wat hy
        have hJ2 : scan d.W k (j + 1) = if y.1.pl = k then some y.1 else scan d.W k j := by
          conv => lhs; unfold scan
          rw [hwy]
        rw [HJ.out] at hJ2
        by_cases hq : y.1.pl = k
        · have t1 : ((y.1.pl : Int) == (k : Int)) = true := by simp [hq]
          have hE : readE d k = 0 := by unfold readE; rw [if_pos HOP.out, Int.toNat_natCast, hJ2, if_pos hq]; rfl
          have hZ : readZ d k = y.1.z := by unfold readZ; rw [Int.toNat_natCast, hJ2, if_pos hq]
          have hp := HFIN.out _ _ hE hZ hxr.row
          obtain ⟨yb, yo, yC, he⟩ := hxr.form
          rw [he] at x1 hp
          have HP := Lib.hid hp
          clear hE hZ hxr hwy hy hJ2 HJ hv hq q2 ej hp he
          go_wp2
          go_ret2
          exact HP.out
        · have t1 : ((y.1.pl : Int) == (k : Int)) = false := by simp; omega
          have HS := Lib.hid (show scan d.W k j = lastW d.W k by rw [hJ2, if_neg hq])
          clear hxr hwy hy hJ2 HJ hv hq q2 ej x1
          go_wp2
          go_roundw
          case rel => exact ⟨j, by omega, rfl, HS, trivial⟩
          case measure => simp [intOf] <;> omega
  · obtain ⟨e1, e2, e3⟩ := openE_ne hop
    have hbad : RRead base F q d a w (.returned (.tuple #[.slice none 0 0, .int .i64 (openE d a)])) w := ⟨_, by rw [e1], by rw [e2]; exact h, by rw [e3]; exact nil_row _ _, Ch.refl _ _⟩
    cases hd : d.dead
    · rw [hd] at c6
      have hh : hasB d a = false := by
        cases q : hasB d a
        · rfl
        · exact (hop (by unfold openE; rw [hd, q]; rfl)).elim
      have ho3 : openE d a = 3 := by unfold openE; rw [hd, hh]; rfl
      rw [ho3] at hbad
      have HP := Lib.hid hbad
      have hr := of_decide_eq_false hh
      obtain ⟨B, G, L', P, Q, cG, cL, cP, cQ, V, s, X, m, lf⟩ := q
      clear h hop e1 e2 e3 hbad ho3 hh hd
      by_cases ha : a < 0
      · clear hr
        go_enter Try.func31, Try.ntmps31
        go_wp2
        go_ret2
        exact HP.out
      · have ha2 : (d.n : Int) ≤ a := by omega
        clear hr
        go_enter Try.func31, Try.ntmps31
        go_wp2
        go_ret2
        exact HP.out
    · rw [hd] at c6
      have ho3 : openE d a = 21 := by unfold openE; rw [hd]; rfl
      rw [ho3] at hbad
      have HP := Lib.hid hbad
      obtain ⟨B, G, L', P, Q, cG, cL, cP, cQ, V, s, X, m, lf⟩ := q
      clear h hop e1 e2 e3 hbad ho3 hd
      go_enter Try.func31, Try.ntmps31
      go_wp2
      go_ret2
      exact HP.out
#print axioms rread_any
end Go.Proofs.Ytjibfoplihaabaa
