/-
  Shares that are left: rs.isLeft, rs.pick, rs.solve, walked.
-/
import Derived.Test.YtlgdajmidcdiaaaRsA
namespace Go.Proofs.Ytlgdajmidcdiaaa
open Go.RowKit
set_option linter.unusedVariables false

theorem left_yes (b o C n i : Nat) (A : Option Addr) (D l : Nat) (w : World) (hi : i < n) (hn : n ≤ 140737488351232) (hc : w.cell? ⟨b, o + i, none⟩ = some (.slice A l D)) (h : 0 < l) :
    Calls Try.prog 28 #[.slice (some ⟨b, o, none⟩) n C, .int .i64 (i : Int)] w fun e w' => e = .returned (.bool true) ∧ w = w' := by
  have t1 : decide (0 < l) = true := by simp; omega
  go_enter Try.func28, Try.ntmps28
  go_wp2
  go_ret
  exact ⟨rfl, rfl⟩
theorem left_no (b o C n i : Nat) (A : Option Addr) (D l : Nat) (w : World) (hi : i < n) (hn : n ≤ 140737488351232) (hc : w.cell? ⟨b, o + i, none⟩ = some (.slice A l D)) (h : ¬ 0 < l) :
    Calls Try.prog 28 #[.slice (some ⟨b, o, none⟩) n C, .int .i64 (i : Int)] w fun e w' => e = .returned (.bool false) ∧ w = w' := by
  have t1 : decide (0 < l) = false := by simp; omega
  go_enter Try.func28, Try.ntmps28
  go_wp2
  go_ret
  exact ⟨rfl, rfl⟩
#print axioms left_no
def PickPost (L : Nat → Nat) (n : Nat) (F : Nat → Value) (w : World) (e : Ending) (w' : World) : Prop :=
  ∃ v, e = .returned v ∧ w'.ownsRow w.heap.size /-t-/33 1 v (idx L n).length ((idx L n).map F) ∧ Ch (fun _ => False) w w'
theorem map_snoc (F : Nat → Value) (l : List Nat) (n : Nat) : (l ++ [n]).map F = l.map F ++ [F n] := by simp
set_option maxHeartbeats 1600000 in
theorem pick_any (b o C bs os Cs n : Nat) (F : Nat → Value) (L : Nat → Nat) (X : Nat → Nat → Nat) (w : World) (n0 : 0 < n) (n64 : n ≤ 64)
    (hF : ∀ r, r < n → ∃ A l D, F r = .slice A l D ∧ w.cell? ⟨b, o + r, none⟩ = some (.slice A l D)) (hs : MatV w (.slice (some ⟨bs, os, none⟩) n Cs) n L X) :
    Calls Try.prog 29 #[.slice (some ⟨b, o, none⟩) n C, .func (.func 28) #[.slice (some ⟨bs, os, none⟩) n Cs] #[]] w (PickPost L n F w) := by
  obtain ⟨bs', os', Cs', e', _, hrs⟩ := hs.some n0
  injection e' with e1 e2 e3
  injection e1 with e1
  injection e1 with e4 e5
  subst e4
  subst e5
  have HF := Lib.hid hF
  have HS := Lib.hid hrs
  obtain ⟨i0, hi, hz0, hz1, hz2⟩ := info_parts Try.info33
  clear hF hs hrs e2 e3
  go_enter Try.func29, Try.ntmps29
  go_wp2
  go_loopw [5, 6, 9] (fun v _ t wr => ∃ k : Nat, k ≤ n ∧ t = .int .i64 k ∧ Ch (fun _ => False) w wr ∧ wr.ownsRow w.heap.size /-t-/33 1 v (idx L k).length ((idx L k).map F)) (fun _ _ t _ => n - (intOf t).toNat)
  case atStart => exact ⟨0, Nat.zero_le _, rfl, Ch.refl _ _, World.ownsRow_nil _ _ _ _⟩
  case round =>
    obtain ⟨k, hk, rfl, hch, hown⟩ := hrel
    by_cases hlt : k < n
    · obtain ⟨A, D, cs, _, _⟩ := HS.out k hlt
      have cs1 := hch.cell cs (fun f => f)
      have HCS := Lib.hid cs1
      clear cs cs1
      by_cases hl : 0 < L k
      · obtain ⟨Af, lf, Df, hFe, cf⟩ := HF.out k hlt
        have cf1 := hch.cell cf (fun f => f)
        have hlen := idx_len L k
        have HA := Lib.hid (app_mk (x := .slice Af lf Df) hown hch.size rfl (by omega))
        have HO := Lib.hid hown
        have HC := Lib.hid hch
        have HM2 := Lib.hid (show ((idx L k).length + 1) * 24 ≤ 140737488355328 by omega)
        have HN := Lib.hid (show (idx L (k + 1)).length = (idx L k).length + 1 by rw [idx_yes hl]; simp)
        have HN2 := Lib.hid (show (idx L (k + 1)).map F = (idx L k).map F ++ [.slice Af lf Df] by rw [idx_yes hl, map_snoc, hFe])
        clear hown hch cf hFe
        go_wp2_with fail
        refine (left_yes _ _ _ _ _ _ _ _ _ hlt (by omega) HCS.out hl).mono ?_
        rintro e w1 ⟨rfl, rfl⟩
        go_wp2_with (at_builtin; refine wpList_append_lies _ rfl (.tmp 15) (.tmp 20) /-t-/22 rfl w.heap.size /-t-/33 i0 (.slice none 0 0) 1 24 Try.underlying22 hi hz0 hz1 hz2 rfl (by decide) u5 (idx L k).length ((idx L k).map F) rfl HA.out.o ⟨wr.heap.size, 0, none⟩ 1 1 [.slice Af lf Df] rfl rfl HA.out.n HA.out.c (by decide) HA.out.m HM2.out HA.out.b (wr.heap.size + 1) HA.out.s ?_; intro g cap w1 h1 h2 h3 h4)
        have hnc : Ch (fun _ => False) w w1 := (HC.out.alloc _ _).grown h2 (fun i hi => Or.inr (World.ownsRow.lt HO.out i hi).1)
        have h1' : w1.ownsRow w.heap.size /-t-/33 1 (.slice (some ⟨g, 0, none⟩) ((idx L k).length + 1) cap) (idx L (k + 1)).length ((idx L (k + 1)).map F) := by rw [HN.out, HN2.out]; exact h1
        clear h1 h2 h3 h4
        go_wp2
        go_roundw
        case rel => exact ⟨k + 1, by omega, by go_num, hnc, h1'⟩
        case measure => simp [intOf]; omega
      · have HO := Lib.hid (show wr.ownsRow w.heap.size /-t-/33 1 u5 (idx L (k + 1)).length ((idx L (k + 1)).map F) by rw [idx_no hl]; exact hown)
        have HC := Lib.hid hch
        clear hown hch
        go_wp2_with fail
        refine (left_no _ _ _ _ _ _ _ _ _ hlt (by omega) HCS.out hl).mono ?_
        rintro e w1 ⟨rfl, rfl⟩
        go_wp2
        go_roundw
        case rel => exact ⟨k + 1, by omega, by go_num, HC.out, HO.out⟩
        case measure => simp [intOf]; omega
    · have HE := Lib.hid (show k = n by omega)
      have HO := Lib.hid hown
      clear hown
      go_wp2
      go_ret
      exact ⟨_, rfl, by have := HO.out; rw [HE.out] at this; exact this, hch⟩
#print axioms pick_any

/-! ### solve -/
def SolvePost (k m : Nat) (R Y : Nat → Nat → Nat) (w : World) (e : Ending) (w' : World) : Prop := ∃ V, Both k V R ∧ FreshPost k m (mulZ k V Y) w e w'
set_option maxHeartbeats 800000 in
theorem solve_new (vr vy : Value) (k : Nat) (M : Nat → Nat) (R Y : Nat → Nat → Nat) (w : World) (hr : MatV w vr k (fun _ => k) R) (hR : AllB R) (hs : Sure k R) (hy : MatV w vy k M Y) (m1 : mayB k M = true) : Calls Try.prog 30 #[vr, vy] w (SolvePost k (M 0) R Y w) := by
  obtain ⟨k1, k2, l1, l2, hL⟩ := mayB_true m1
  have HR := Lib.hid hr
  have HRB := Lib.hid hR
  have HS := Lib.hid hs
  have HY := Lib.hid hy
  have M1 := Lib.hid m1
  have MC := Lib.hid (may_const k1 k2 k1 (by omega : k ≤ 4096))
  clear hr hR hs hy m1 hL
  go_enter Try.func30, Try.ntmps30
  go_wp2_with fail
  refine (inv_ans _ k (fun _ => k) R HRB.out _ HR.out MC.out rfl).mono ?_
  rintro e w1 ⟨A7, l7, C7, k7, rfl, hch7, (⟨V, rfl, hboth, hV⟩ | ⟨rfl, hns, _⟩)⟩
  · have HV := Lib.hid hV
    have HBO := Lib.hid hboth
    have HC7 := Lib.hid hch7
    clear hV hboth hch7
    go_wp2_with fail
    refine (mul_new _ _ k k (fun _ => k) M V Y _ HV.out (HY.out.gr HC7.out) MC.out M1.out rfl).mono ?_
    rintro e w2 ⟨u, rfl, hB2, hch2⟩
    have HB2 := Lib.hid hB2
    have HC2 := Lib.hid hch2
    clear hB2 hch2
    go_wp2
    go_ret2
    exact ⟨V, HBO.out, _, rfl, Bld.base HB2.out HC7.out.size, HC7.out.trans HC2.out⟩
  · exact (hns HS.out).elim
#print axioms solve_new
/-! ### what May says of those that are left -/
theorem may_left {L : Nat → Nat} {n : Nat} (hn : n ≤ 64) (h0 : 0 < (idx L n).length) : mayB (idx L n).length (fun i => L ((idx L n).getD i 0)) = true ↔ Fits L n := by
  have hl := idx_len L n
  constructor
  · intro h
    obtain ⟨_, _, a1, a2, hL⟩ := mayB_true h
    intro i hi h0
    have key : ∀ j, j < n → 0 < L j → L j = L ((idx L n).getD 0 0) := fun j hj hj0 => by
      obtain ⟨r, hr, e⟩ := List.mem_iff_getElem.1 (idx_mem.2 ⟨hj, hj0⟩)
      have := hL r hr
      rw [List.getD, List.getElem?_eq_getElem hr] at this
      simp only [Option.getD_some] at this
      rw [← e]; exact this
    exact ⟨by rw [key i hi h0]; exact a2, fun j hj hj0 => by rw [key i hi h0, key j hj hj0]⟩
  · intro h
    have hb := h.bounds h0
    exact mayB_mk ⟨by omega, by omega, hb.1, hb.2, fun r hr => h.wh hr⟩
theorem may_left_no {L : Nat → Nat} {n : Nat} (hn : n ≤ 64) (h0 : 0 < (idx L n).length) (h : ¬ Fits L n) : mayB (idx L n).length (fun i => L ((idx L n).getD i 0)) = false := by
  cases q : mayB (idx L n).length (fun i => L ((idx L n).getD i 0)) with
  | false => rfl
  | true => exact absurd ((may_left hn h0).1 q) h
end Go.Proofs.Ytlgdajmidcdiaaa
