/-
  The document's own device (quartermasterref06), walked: Read, Flush, Crash.
-/
import Derived.Test.YtkbhpkpacojpcaaDrA
namespace Go.Proofs.Ytkbhpkpacojpcaa
open Go.RowKit
set_option linter.unusedVariables false

/-! ### Read -/
def RRead (base : Nat) (F : Nat → Prop) (q : Rh) (d : Dev) (a : Int) (w : World) (e : Ending) (w' : World) : Prop :=
  ∃ v, e = .returned (.tuple #[v, .int .i64 (readE d a)]) ∧ RefIs base F w' q (readD d a) ∧ RowV w' v (readL d a) (readZ d a) ∧ Ch F w w'
theorem RefIs.setOps {base : Nat} {F : Nat → Prop} {w : World} {q : Rh} {d : Dev} (h : RefIs base F w q d) (x : Nat) : RefIs base F (w.setCell ⟨q.B, 8, none⟩ (.int .i64 (x : Int))) q { d with ops := x } :=
  h.setB 8 (.int .i64 (x : Int)) d.dead d.armed d.left x q.lf rfl h.lf h.lfa
theorem RefIs.XL {base : Nat} {F : Nat → Prop} {w : World} {q : Rh} {d : Dev} (h : RefIs base F w q d) : q.X.length = d.W.length := by rw [← h.XW, List.length_map]
theorem RefIs.Wat {base : Nat} {F : Nat → Prop} {w : World} {q : Rh} {d : Dev} (h : RefIs base F w q d) {k : Nat} {y : Wt × Value} (hk : q.X[k]? = some y) : d.W[k]? = some y.1 := by rw [← h.XW, List.getElem?_map, hk]; rfl
set_option maxHeartbeats 800000 in
set_option maxRecDepth 100000 in
theorem rread_any (base : Nat) (F : Nat → Prop) (q : Rh) (d : Dev) (a : Int) (w : World) (h : RefIs base F w q d) (ho : d.ops ≤ 1152921504606846976) (hW : d.W.length ≤ 1048576) :
    Calls Try.prog 32 #[.pointer (some ⟨q.B, 0, none⟩), .int .i64 a] w (RRead base F q d a w) := by
  have c0 : w.cell? ⟨q.B, 0, none⟩ = some (.slice (some ⟨q.G, 0, none⟩) d.n q.cG) := h.cellB 0
  have c6 : w.cell? ⟨q.B, 6, none⟩ = some (.bool d.dead) := h.cellB 6
  have hnn := h.nn
  by_cases hop : openE d a = 0
  · obtain ⟨hd, k, rfl, hk⟩ := openE_ok hop
    rw [hd] at c6
    have c8 : w.cell? ⟨q.B, 8, none⟩ = some (.int .i64 (d.ops : Int)) := h.cellB 8
    have f8 := h.frB 8
    have h1 := h.setOps (d.ops + 1)
    have HC1 := Lib.hid (h.chB 8 (.int .i64 ((d.ops + 1 : Nat) : Int)))
    have HRD := Lib.hid (show readD d k = { d with ops := d.ops + 1 } by unfold readD; rw [if_pos hop])
    have eop : ((d.ops + 1 : Nat) : Int) = (d.ops : Int) + 1 := by omega
    rw [eop] at h1 HC1
    obtain ⟨w1, hw1⟩ : ∃ w1, w1 = w.setCell ⟨q.B, 8, none⟩ (.int .i64 ((d.ops : Int) + 1)) := ⟨_, rfl⟩
    rw [← hw1] at h1 HC1
    have HW1 := Lib.hid hw1.symm
    have d0 : w1.cell? ⟨q.B, 0, none⟩ = some (.slice (some ⟨q.G, 0, none⟩) d.n q.cG) := h1.cellB 0
    have d1 : w1.cell? ⟨q.B, 1, none⟩ = some (.slice (some ⟨q.L, 0, none⟩) d.n q.cL) := h1.cellB 1
    have d2 : w1.cell? ⟨q.B, 2, none⟩ = some q.V := h1.cellB 2
    have cs : w1.cell? ⟨q.G, k, none⟩ = some (q.s k) := h1.cellS hk
    have cl : w1.cell? ⟨q.L, k, none⟩ = some (.bool (d.lost k)) := h1.cellL hk
    have i1 : (0 : Int) ≤ (k : Int) := Int.natCast_nonneg _
    have i2 : (k : Int) < (d.n : Int) := by omega
    obtain ⟨A, C, hV⟩ := h.vform
    obtain ⟨L, hL⟩ : ∃ L, L = q.X.length := ⟨_, rfl⟩
    have hLW : L ≤ 1048576 := by rw [hL, h.XL]; exact hW
    rw [← hL] at hV
    rw [hV] at d2
    obtain ⟨sb, so, sC, hs⟩ := (h1.srow k hk).form
    rw [hs] at cs
    have hfin : ∀ (v : Value) (z : Nat → Nat), readE d k = 0 → readZ d k = z → RowV w1 v 256 z → RRead base F q d k w (.returned (.tuple #[v, .int .i64 0])) w1 := fun v z e1 e2 e3 =>
      ⟨v, by rw [e1], by rw [HRD.out]; exact h1, by rw [show readL d k = 256 by unfold readL; rw [if_pos e1], e2]; exact e3, HC1.out⟩
    have HFIN := Lib.hid hfin
    have HSR := Lib.hid (h1.srow k hk).row
    rw [hs] at HSR
    have HK := Lib.hid hk
    have H1 := Lib.hid h1
    have HOP := Lib.hid hop
    have HV := Lib.hid hV
    have HL := Lib.hid hL
    have HW2 : w.setCell ⟨q.B, 8, none⟩ (.int .i64 ((d.ops : Int) + 1)) = w1 := hw1.symm
    obtain ⟨B, G, L', P, Q, cG, cL, cP, cQ, V, s, X, m, lf⟩ := q
    clear h h1 hw1 hV hop hk eop hfin hs hd hL hW
    go_enter Try.func32, Try.ntmps32
    go_wp2_with fail
    clear HW2 HW1
    go_loopw [6] (fun i wr => ∃ j : Nat, j ≤ L ∧ i = .int .i64 ((j : Int) - 1) ∧ Hid (scan d.W k j = lastW d.W k) ∧ wr = w1) (fun i _ => (intOf i + 1).toNat)
    case atStart => exact ⟨L, Nat.le_refl _, rfl, Lib.hid (by unfold lastW; rw [HL.out, H1.out.XL]), rfl⟩
    case round =>
      obtain ⟨j, hj, rfl, HJ, rfl⟩ := hrel
      cases j with
      | zero =>
        have HE0 := Lib.hid (show (none : Option Wt) = lastW d.W k from HJ.out)
        cases hlo : d.lost k
        · rw [hlo] at cl
          have hE : readE d k = 0 := by unfold readE; rw [if_pos HOP.out, Int.toNat_natCast, ← HE0.out, hlo]; rfl
          have hZ : readZ d k = d.has k := by unfold readZ; rw [Int.toNat_natCast, ← HE0.out]
          have HP := Lib.hid (HFIN.out _ _ hE hZ HSR.out)
          clear hE hZ hlo hj
          go_wp2
          go_ret2
          exact HP.out
        · rw [hlo] at cl
          have hE : readE d k = 20 := by unfold readE; rw [if_pos HOP.out, Int.toNat_natCast, ← HE0.out, hlo]; rfl
          have HP := Lib.hid (show RRead base F ⟨B, G, L', P, Q, cG, cL, cP, cQ, V, s, X, m, lf⟩ d k w (.returned (.tuple #[.slice none 0 0, .int .i64 20])) wr from
            ⟨_, by rw [hE], by rw [HRD.out]; exact H1.out, by rw [show readL d k = 0 by unfold readL; rw [hE]; rfl]; exact nil_row _ _, HC1.out⟩)
          clear hE hlo hj
          go_wp2
          go_ret2
          exact HP.out
      | succ j =>
        have ej : ((j + 1 : Nat) : Int) - 1 = (j : Int) := by omega
        rw [ej]
        obtain ⟨y, hy⟩ : ∃ y, X[j]? = some y := ⟨_, List.getElem?_eq_getElem (by rw [← HL.out]; omega)⟩
        obtain ⟨g, cap, hv, x0, x1⟩ := H1.out.wt (k := j) (y := y) hy
        have hv2 := HV.out.symm.trans hv
        injection hv2 with q1 q2 q3
        subst q1
        subst q3
        have i3 : (0 : Int) ≤ (j : Int) := Int.natCast_nonneg _
        have i4 : (j : Int) < (L : Int) := by omega
        have hxr := H1.out.xrow y (List.mem_of_getElem? hy)
        have hwy : d.W[j]? = some y.1 := H1.out.Wat hy
        have hJ2 : scan d.W k (j + 1) = if y.1.pl = k then some y.1 else scan d.W k j := by
          conv => lhs; unfold scan
          rw [hwy]
        rw [HJ.out] at hJ2
        by_cases hq : y.1.pl = k
        · have t1 : ((y.1.pl : Int) == (k : Int)) = true := by simp [hq]
          have hE : readE d k = 0 := by unfold readE; rw [if_pos HOP.out, Int.toNat_natCast, hJ2, if_pos hq]; rfl
          have hZ : readZ d k = y.1.z := by unfold readZ; rw [Int.toNat_natCast, hJ2, if_pos hq]
          have hp := HFIN.out _ _ hE hZ hxr.row
          obtain ⟨yb, yo, yC, he⟩ := hxr.form
          rw [he] at x1 hp
          have HP := Lib.hid hp
          clear hE hZ hxr hwy hy hJ2 HJ hv hq q2 ej hp he
          go_wp2
          go_ret2
          exact HP.out
        · have t1 : ((y.1.pl : Int) == (k : Int)) = false := by simp; omega
          have HS := Lib.hid (show scan d.W k j = lastW d.W k by rw [hJ2, if_neg hq])
          clear hxr hwy hy hJ2 HJ hv hq q2 ej x1
          go_wp2
          go_roundw
          case rel => exact ⟨j, by omega, rfl, HS, trivial⟩
          case measure => simp [intOf] <;> omega
  · obtain ⟨e1, e2, e3⟩ := openE_ne hop
    have hbad : RRead base F q d a w (.returned (.tuple #[.slice none 0 0, .int .i64 (openE d a)])) w := ⟨_, by rw [e1], by rw [e2]; exact h, by rw [e3]; exact nil_row _ _, Ch.refl _ _⟩
    cases hd : d.dead
    · rw [hd] at c6
      have hh : hasB d a = false := by
        cases q : hasB d a
        · rfl
        · exact (hop (by unfold openE; rw [hd, q]; rfl)).elim
      have ho3 : openE d a = 3 := by unfold openE; rw [hd, hh]; rfl
      rw [ho3] at hbad
      have HP := Lib.hid hbad
      have hr := of_decide_eq_false hh
      obtain ⟨B, G, L', P, Q, cG, cL, cP, cQ, V, s, X, m, lf⟩ := q
      clear h hop e1 e2 e3 hbad ho3 hh hd
      by_cases ha : a < 0
      · clear hr
        go_enter Try.func32, Try.ntmps32
        go_wp2
        go_ret2
        exact HP.out
      · have ha2 : (d.n : Int) ≤ a := by omega
        clear hr
        go_enter Try.func32, Try.ntmps32
        go_wp2
        go_ret2
        exact HP.out
    · rw [hd] at c6
      have ho3 : openE d a = 21 := by unfold openE; rw [hd]; rfl
      rw [ho3] at hbad
      have HP := Lib.hid hbad
      obtain ⟨B, G, L', P, Q, cG, cL, cP, cQ, V, s, X, m, lf⟩ := q
      clear h hop e1 e2 e3 hbad ho3 hd
      go_enter Try.func32, Try.ntmps32
      go_wp2
      go_ret2
      exact HP.out
#print axioms rread_any
end Go.Proofs.Ytkbhpkpacojpcaa
