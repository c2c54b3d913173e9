/-
  The document's own device (quartermasterref06), walked: dies, does.
-/
import Derived.Test.YtkbhpkpacojpcaaDskN
namespace Go.Proofs.Ytkbhpkpacojpcaa
open Go.RowKit
set_option linter.unusedVariables false

/-! ### dies -/
theorem wrap_in (x : Int) : I64 (wrap64 x) := by unfold I64 wrap64; omega
theorem RefIs.chB {base : Nat} {F : Nat → Prop} {w : World} {q : Rh} {d : Dev} (h : RefIs base F w q d) (i : Nat) (v : Value) : Ch F w (w.setCell ⟨q.B, i, none⟩ v) := (Ch.refl F w).setCell (p := ⟨q.B, i, none⟩) (Or.inl h.fB) v
def DiesPost (base : Nat) (F : Nat → Prop) (q : Rh) (d : Dev) (w : World) (e : Ending) (w' : World) : Prop := e = .returned (.bool (diesB d)) ∧ ∃ l, RefIs base F w' { q with lf := l } (diesD d) ∧ Ch F w w'
set_option maxHeartbeats 800000 in
set_option maxRecDepth 100000 in
theorem rdies_any (base : Nat) (F : Nat → Prop) (q : Rh) (d : Dev) (w : World) (h : RefIs base F w q d) :
    Calls Try.prog 43 #[.pointer (some ⟨q.B, 0, none⟩)] w (DiesPost base F q d w) := by
  have c5 : w.cell? ⟨q.B, 5, none⟩ = some (.bool d.armed) := h.cellB 5
  have c6 : w.cell? ⟨q.B, 6, none⟩ = some (.bool d.dead) := h.cellB 6
  have c7 : w.cell? ⟨q.B, 7, none⟩ = some (.int .i64 q.lf) := h.cellB 7
  have f6 := h.frB 6
  have f7 := h.frB 7
  have hlf := h.lf
  unfold I64 at hlf
  cases ha : d.armed
  · have hS : diesB d = false ∧ diesD d = d := by unfold diesB diesD; rw [ha]; exact ⟨rfl, rfl⟩
    rw [ha] at c5
    have HP := Lib.hid (show DiesPost base F q d w (.returned (.bool false)) (w.setCell ⟨q.B, 7, none⟩ (.int .i64 (wrap64 (q.lf - 1)))) from ⟨by rw [hS.1], by
      rw [hS.2]
      exact ⟨_, h.setB 7 (.int .i64 (wrap64 (q.lf - 1))) d.dead d.armed d.left d.ops (wrap64 (q.lf - 1)) rfl (wrap_in _) (fun e => by rw [ha] at e; cases e), h.chB 7 _⟩⟩)
    obtain ⟨B, G, L, P, Q, cG, cL, cP, cQ, V, s, X, m, lf⟩ := q
    clear h hS
    go_enter Try.func43, Try.ntmps43
    go_wp2
    go_ret
    exact HP.out
  · obtain ⟨he, h0⟩ := h.lfa ha
    rw [ha] at c5
    by_cases hz : d.left = 0
    · have hS : diesB d = true ∧ diesD d = { d with dead := true } := by unfold diesB diesD; rw [ha, hz]; exact ⟨rfl, rfl⟩
      have HP := Lib.hid (show DiesPost base F q d w (.returned (.bool true)) (w.setCell ⟨q.B, 6, none⟩ (.bool true)) from ⟨by rw [hS.1], by
        rw [hS.2]
        exact ⟨q.lf, h.setB 6 (.bool true) true d.armed d.left d.ops q.lf rfl h.lf h.lfa, h.chB 6 _⟩⟩)
      rw [he, hz] at c7
      obtain ⟨B, G, L, P, Q, cG, cL, cP, cQ, V, s, X, m, lf⟩ := q
      clear h hS
      go_enter Try.func43, Try.ntmps43
      go_wp2
      go_ret
      exact HP.out
    · have hS : diesB d = false ∧ diesD d = { d with left := d.left - 1 } := by
        unfold diesB diesD
        rw [ha, if_pos rfl, if_pos (by omega), decide_eq_false (by omega)]
        exact ⟨rfl, rfl⟩
      have hw : wrap64 (q.lf - 1) = d.left - 1 := by unfold wrap64; rw [he]; rw [he] at hlf; omega
      have HP := Lib.hid (show DiesPost base F q d w (.returned (.bool false)) (w.setCell ⟨q.B, 7, none⟩ (.int .i64 (d.left - 1))) from ⟨by rw [hS.1], by
        rw [hS.2]
        exact ⟨_, h.setB 7 (.int .i64 (d.left - 1)) d.dead d.armed (d.left - 1) d.ops (d.left - 1) rfl (by rw [← hw]; exact wrap_in _) (fun _ => ⟨rfl, by omega⟩), h.chB 7 _⟩⟩)
      rw [he] at c7 hlf
      obtain ⟨lv, hlv⟩ : ∃ lv, lv = d.left := ⟨_, rfl⟩
      rw [← hlv] at HP he h0 hz c7 hlf
      have t2 : (lv == 0) = false := by simpa using hz
      obtain ⟨B, G, L, P, Q, cG, cL, cP, cQ, V, s, X, m, lf⟩ := q
      clear h hS hlv hw he
      go_enter Try.func43, Try.ntmps43
      go_wp2
      go_ret
      exact HP.out
#print axioms rdies_any

/-! ### does -/
theorem alloc2 (w : World) (a b : Value) (t : TypeId) : (w.alloc (.cells #[a, b] t)).cell? ⟨w.heap.size, 0, none⟩ = some a ∧ (w.alloc (.cells #[a, b] t)).cell? ⟨w.heap.size, 1, none⟩ = some b := ⟨alloc_cell w _ _ 0, alloc_cell w _ _ 1⟩
def DonePost (base : Nat) (F : Nat → Prop) (q : Rh) (d : Dev) (x : Wt) (v : Value) (w : World) (e : Ending) (w' : World) : Prop := e = .returned (.tuple #[]) ∧ RefIs base F w' { q with s := up q.s x.pl v } (finD d x) ∧ Ch F w w'
set_option maxHeartbeats 800000 in
set_option maxRecDepth 100000 in
theorem rdoes_any (base : Nat) (F : Nat → Prop) (q : Rh) (d : Dev) (x : Wt) (v : Value) (w : World) (h : RefIs base F w q d) (hx : x.pl < d.n) (hv : BRow w v x.z) (hF : ∀ i, v.ownBlock = some i → F i) :
    Calls Try.prog 44 #[.pointer (some ⟨q.B, 0, none⟩), .agg #[.int .i64 (x.pl : Int), v]] w (DonePost base F q d x v w) := by
  obtain ⟨vb, vo, vC, rfl⟩ := hv.form
  obtain ⟨H, hH⟩ : ∃ H, H = w.heap.size := ⟨_, rfl⟩
  obtain ⟨w1, hw1⟩ : ∃ w1, w1 = w.alloc (.cells #[.int .i64 (x.pl : Int), .slice (some ⟨vb, vo, none⟩) 256 vC] 89) := ⟨_, rfl⟩
  have k1 : Ch (fun _ => False) w w1 := by rw [hw1]; exact (Ch.refl _ w).alloc _ _
  have h1 := h.gr k1
  have c0 : w1.cell? ⟨q.B, 0, none⟩ = some (.slice (some ⟨q.G, 0, none⟩) d.n q.cG) := h1.cellB 0
  have x0 : w1.cell? ⟨H, 0, none⟩ = some (.int .i64 (x.pl : Int)) := by rw [hw1, hH]; exact (alloc2 w _ _ _).1
  have x1 : w1.cell? ⟨H, 1, none⟩ = some (.slice (some ⟨vb, vo, none⟩) 256 vC) := by rw [hw1, hH]; exact (alloc2 w _ _ _).2
  have cs : w1.cell? ⟨q.G, x.pl, none⟩ = some (q.s x.pl) := h1.cellS hx
  have fs := h1.sec.frozen x.pl
  have i1 : (0 : Int) ≤ (x.pl : Int) := Int.natCast_nonneg _
  have i2 : (x.pl : Int) < (d.n : Int) := by omega
  have HW1 := Lib.hid hw1.symm
  have HH := Lib.hid hH.symm
  have H1 := Lib.hid h1
  have HV := Lib.hid (hv.of (fun i hi => k1.block i (h.hi i (hF i hi)) (fun f => f)))
  have HFV := Lib.hid hF
  have HC1 := Lib.hid k1
  have HHF := Lib.hid (show ¬ F H from fun f => by have := h.hi _ f; omega)
  clear h h1 k1 hv hF hw1 hH
  obtain ⟨B, G, L, P, Q, cG, cL, cP, cQ, V, s, X, m, lf⟩ := q
  go_enter Try.func44, Try.ntmps44
  go_wp2_with ((with_reducible refine wpList_same ?_); refine wpList_boxing _ w1 rfl 89 (.tmp 1) rfl #[.int .i64 (x.pl : Int), .slice (some ⟨vb, vo, none⟩) 256 vC] H rfl (by exact HH.out) (by exact HW1.out) ?_)
  go_region
  go_wp2
  have h2 := (H1.out.setS (a := x.pl) _ x.z HV.out HFV.out).gr ((Ch.refl _ _).drew)
  have k2 : Ch F w1 (w1.setCell ⟨G, x.pl, none⟩ (.slice (some ⟨vb, vo, none⟩) 256 vC)).drew := ((Ch.refl F w1).setCell (p := ⟨G, x.pl, none⟩) (Or.inl H1.out.fG) _).drew
  obtain ⟨wd, hwd⟩ : ∃ wd, wd = (w1.setCell ⟨G, x.pl, none⟩ (.slice (some ⟨vb, vo, none⟩) 256 vC)).drew := ⟨_, rfl⟩
  rw [← hwd] at h2 k2
  rw [← hwd]
  have c1 : wd.cell? ⟨B, 1, none⟩ = some (.slice (some ⟨L, 0, none⟩) d.n cL) := h2.cellB 1
  have y0 : wd.cell? ⟨H, 0, none⟩ = some (.int .i64 (x.pl : Int)) := k2.cell x0 (fun f => HHF.out f)
  have cl : wd.cell? ⟨L, x.pl, none⟩ = some (.bool (d.lost x.pl)) := h2.cellL hx
  have fl := h2.los.frozen x.pl
  have HP := Lib.hid (show DonePost base F ⟨B, G, L, P, Q, cG, cL, cP, cQ, V, s, X, m, lf⟩ d x (.slice (some ⟨vb, vo, none⟩) 256 vC) w (.returned (.tuple #[])) (wd.setCell ⟨L, x.pl, none⟩ (.bool false)).drew from
    ⟨rfl, (h2.setL (a := x.pl) false).gr ((Ch.refl _ _).drew), ((HC1.out.mono fun _ _ f => f.elim).trans k2).trans (((Ch.refl F wd).setCell (p := ⟨L, x.pl, none⟩) (Or.inl h2.fL) _).drew)⟩)
  clear h2 k2 hwd x0 x1 c0 cs fs
  go_region
  all_goals (go_wp2; go_end0; exact HP.out)
#print axioms rdoes_any
end Go.Proofs.Ytkbhpkpacojpcaa
