/-
  Shares that are left: rs.isLeft, rs.pick, rs.solve, walked. rs.Decode, walked. The chapter's example, walked: it comes out as it should; light. A matrix that is handed in, opened; the last step of a law's row where a call has made new memory. What the laws on Decode share: all shares in one list; shares of which some are nil. RsAny, walked.
-/
import Derived.Test.YtlbdopcchoklhaaGreatMh17
import Derived.Deep.DeepCutAuto
import Derived.Test.YtlbdopcchoklhaaGreatMh1
import Derived.Test.YtlbdopcchoklhaaGreatMh16
import Derived.Deep.Grids
import Derived.Deep.Matrix
import Derived.ProofKit
import Derived.OpenShut
import Derived.SizedLaws
import Derived.Carry
namespace Go.Proofs.YtlbdopcchoklhaaGreat
open Go.RowKit
set_option linter.unusedVariables false
set_option maxRecDepth 100000

theorem left_yes (b o C n i : Nat) (A : Option Addr) (D l : Nat) (w : World) (hi : i < n) (hn : n ≤ 140737488351232) (hc : w.cell? ⟨b, o + i, none⟩ = some (.slice A l D)) (h : 0 < l) :
    Calls Tryz.prog 77 #[.slice (some ⟨b, o, none⟩) n C, .int .i64 (i : Int)] w fun e w' => e = .returned (.bool true) ∧ w = w' := by
  have t1 : decide (0 < l) = true := by simp; omega
  go_enter Tryz.func77, Tryz.ntmps77
  go_wp2
  go_ret
  exact ⟨rfl, rfl⟩
theorem left_no (b o C n i : Nat) (A : Option Addr) (D l : Nat) (w : World) (hi : i < n) (hn : n ≤ 140737488351232) (hc : w.cell? ⟨b, o + i, none⟩ = some (.slice A l D)) (h : ¬ 0 < l) :
    Calls Tryz.prog 77 #[.slice (some ⟨b, o, none⟩) n C, .int .i64 (i : Int)] w fun e w' => e = .returned (.bool false) ∧ w = w' := by
  have t1 : decide (0 < l) = false := by simp; omega
  go_enter Tryz.func77, Tryz.ntmps77
  go_wp2
  go_ret
  exact ⟨rfl, rfl⟩
def PickPost (L : Nat → Nat) (n : Nat) (F : Nat → Value) (w : World) (e : Ending) (w' : World) : Prop :=
  ∃ v, e = .returned v ∧ w'.ownsRow w.heap.size /-t-/24 1 v (idx L n).length ((idx L n).map F) ∧ Ch (fun _ => False) w w'
theorem map_snoc (F : Nat → Value) (l : List Nat) (n : Nat) : (l ++ [n]).map F = l.map F ++ [F n] := by simp
set_option maxHeartbeats 1600000 in
theorem pick_any (b o C bs os Cs n : Nat) (F : Nat → Value) (L : Nat → Nat) (X : Nat → Nat → Nat) (w : World) (n0 : 0 < n) (n64 : n ≤ 64)
    (hF : ∀ r, r < n → ∃ A l D, F r = .slice A l D ∧ w.cell? ⟨b, o + r, none⟩ = some (.slice A l D)) (hs : MatV w (.slice (some ⟨bs, os, none⟩) n Cs) n L X) :
    Calls Tryz.prog 78 #[.slice (some ⟨b, o, none⟩) n C, .func (.func 77) #[.slice (some ⟨bs, os, none⟩) n Cs] #[]] w (PickPost L n F w) := by
  obtain ⟨bs', os', Cs', e', _, hrs⟩ := hs.some n0
  injection e' with e1 e2 e3
  injection e1 with e1
  injection e1 with e4 e5
  subst e4
  subst e5
  have HF := Lib.hid hF
  have HS := Lib.hid hrs
  obtain ⟨i0, hi, hz0, hz1, hz2⟩ := info_parts Tryz.info24
  clear hF hs hrs e2 e3
  go_enter Tryz.func78, Tryz.ntmps78
  go_wp2
  go_loopw [5, 6, 9] (fun v _ t wr => ∃ k : Nat, k ≤ n ∧ t = .int .i64 k ∧ Ch (fun _ => False) w wr ∧ wr.ownsRow w.heap.size /-t-/24 1 v (idx L k).length ((idx L k).map F)) (fun _ _ t _ => n - (intOf t).toNat)
  case atStart => exact ⟨0, Nat.zero_le _, rfl, Ch.refl _ _, World.ownsRow_nil _ _ _ _⟩
  case round =>
    obtain ⟨k, hk, rfl, hch, hown⟩ := hrel
    by_cases hlt : k < n
    · obtain ⟨A, D, cs, _, _⟩ := HS.out k hlt
      have cs1 := hch.cell cs (fun f => f)
      have HCS := Lib.hid cs1
      clear cs cs1
      by_cases hl : 0 < L k
      · obtain ⟨Af, lf, Df, hFe, cf⟩ := HF.out k hlt
        have cf1 := hch.cell cf (fun f => f)
        have hlen := idx_len L k
        have HA := Lib.hid (app_mk (x := .slice Af lf Df) hown hch.size rfl (by omega))
        have HO := Lib.hid hown
        have HC := Lib.hid hch
        have HM2 := Lib.hid (show ((idx L k).length + 1) * 24 ≤ 140737488355328 by omega)
        have HN := Lib.hid (show (idx L (k + 1)).length = (idx L k).length + 1 by rw [idx_yes hl]; simp)
        have HN2 := Lib.hid (show (idx L (k + 1)).map F = (idx L k).map F ++ [.slice Af lf Df] by rw [idx_yes hl, map_snoc, hFe])
        clear hown hch cf hFe
        go_wp2_with fail
        refine (left_yes _ _ _ _ _ _ _ _ _ hlt (by omega) HCS.out hl).mono ?_
        rintro e w1 ⟨rfl, rfl⟩
        go_wp2_with (at_builtin; refine wpList_append_lies _ rfl (.tmp 15) (.tmp 20) /-t-/37 rfl w.heap.size /-t-/24 i0 (.slice none 0 0) 1 24 Tryz.underlying37 hi hz0 hz1 hz2 rfl (by decide) u5 (idx L k).length ((idx L k).map F) rfl HA.out.o ⟨wr.heap.size, 0, none⟩ 1 1 [.slice Af lf Df] rfl rfl HA.out.n HA.out.c (by decide) HA.out.m HM2.out HA.out.b (wr.heap.size + 1) HA.out.s ?_; intro g cap w1 h1 h2 h3 h4)
        have hnc : Ch (fun _ => False) w w1 := (HC.out.alloc _ _).grown h2 (fun i hi => Or.inr (World.ownsRow.lt HO.out i hi).1)
        have h1' : w1.ownsRow w.heap.size /-t-/24 1 (.slice (some ⟨g, 0, none⟩) ((idx L k).length + 1) cap) (idx L (k + 1)).length ((idx L (k + 1)).map F) := by rw [HN.out, HN2.out]; exact h1
        clear h1 h2 h3 h4
        go_wp2
        go_roundw
        case rel => exact ⟨k + 1, by omega, by go_num, hnc, h1'⟩
        case measure => simp [intOf]; omega
      · have HO := Lib.hid (show wr.ownsRow w.heap.size /-t-/24 1 u5 (idx L (k + 1)).length ((idx L (k + 1)).map F) by rw [idx_no hl]; exact hown)
        have HC := Lib.hid hch
        clear hown hch
        go_wp2_with fail
        refine (left_no _ _ _ _ _ _ _ _ _ hlt (by omega) HCS.out hl).mono ?_
        rintro e w1 ⟨rfl, rfl⟩
        go_wp2
        go_roundw
        case rel => exact ⟨k + 1, by omega, by go_num, HC.out, HO.out⟩
        case measure => simp [intOf]; omega
    · have HE := Lib.hid (show k = n by omega)
      have HO := Lib.hid hown
      clear hown
      go_wp2
      go_ret
      exact ⟨_, rfl, by have := HO.out; rw [HE.out] at this; exact this, hch⟩
/-! ### solve -/
def SolvePost (k m : Nat) (R Y : Nat → Nat → Nat) (w : World) (e : Ending) (w' : World) : Prop := ∃ V, Both k V R ∧ FreshPost k m (mulZ k V Y) w e w'
set_option maxHeartbeats 800000 in
theorem solve_new (vr vy : Value) (k : Nat) (M : Nat → Nat) (R Y : Nat → Nat → Nat) (w : World) (hr : MatV w vr k (fun _ => k) R) (hR : AllB R) (hs : Sure k R) (hy : MatV w vy k M Y) (m1 : mayBF k M = true) : Calls Tryz.prog 80 #[vr, vy] w (SolvePost k (M 0) R Y w) := by
  obtain ⟨k1, k2, l1, l2, hL⟩ := mayB_true m1
  have HR := Lib.hid hr
  have HRB := Lib.hid hR
  have HS := Lib.hid hs
  have HY := Lib.hid hy
  have M1 := Lib.hid m1
  have MC := Lib.hid (may_const k1 k2 k1 (by omega : k ≤ 4096))
  clear hr hR hs hy m1 hL
  go_enter Tryz.func80, Tryz.ntmps80
  go_wp2_with fail
  refine (inv_ans _ k (fun _ => k) R HRB.out _ HR.out MC.out rfl).mono ?_
  rintro e w1 ⟨A7, l7, C7, k7, rfl, hch7, (⟨V, rfl, hboth, hV⟩ | ⟨rfl, hns, _⟩)⟩
  · have HV := Lib.hid hV
    have HBO := Lib.hid hboth
    have HC7 := Lib.hid hch7
    clear hV hboth hch7
    go_wp2_with fail
    refine (mul_new _ _ k k (fun _ => k) M V Y _ HV.out (HY.out.gr HC7.out) MC.out M1.out rfl).mono ?_
    rintro e w2 ⟨u, rfl, hB2, hch2⟩
    have HB2 := Lib.hid hB2
    have HC2 := Lib.hid hch2
    clear hB2 hch2
    go_wp2
    go_ret2
    exact ⟨V, HBO.out, _, rfl, Bld.base HB2.out HC7.out.size, HC7.out.trans HC2.out⟩
  · exact (hns HS.out).elim
/-! ### what May says of those that are left -/
theorem may_left {L : Nat → Nat} {n : Nat} (hn : n ≤ 64) (h0 : 0 < (idx L n).length) : mayBF (idx L n).length (fun i => L ((idx L n).getD i 0)) = true ↔ Fits L n := by
  have hl := idx_len L n
  constructor
  · intro h
    obtain ⟨_, _, a1, a2, hL⟩ := mayB_true h
    intro i hi h0
    have key : ∀ j, j < n → 0 < L j → L j = L ((idx L n).getD 0 0) := fun j hj hj0 => by
      obtain ⟨r, hr, e⟩ := List.mem_iff_getElem.1 (idx_mem.2 ⟨hj, hj0⟩)
      have := hL r hr
      rw [List.getD, List.getElem?_eq_getElem hr] at this
      simp only [Option.getD_some] at this
      rw [← e]; exact this
    exact ⟨by rw [key i hi h0]; exact a2, fun j hj hj0 => by rw [key i hi h0, key j hj hj0]⟩
  · intro h
    have hb := h.bounds h0
    exact mayB_mk ⟨by omega, by omega, hb.1, hb.2, fun r hr => h.wh hr⟩
theorem may_left_no {L : Nat → Nat} {n : Nat} (hn : n ≤ 64) (h0 : 0 < (idx L n).length) (h : ¬ Fits L n) : mayBF (idx L n).length (fun i => L ((idx L n).getD i 0)) = false := by
  cases q : mayBF (idx L n).length (fun i => L ((idx L n).getD i 0)) with
  | false => rfl
  | true => exact absurd ((may_left hn h0).1 q) h
end Go.Proofs.YtlbdopcchoklhaaGreat
namespace Go.Proofs.YtlbdopcchoklhaaGreat
open Go.RowKit
set_option linter.unusedVariables false
set_option maxRecDepth 100000

/-- A matrix' rows as values, all of them slices. -/
theorem mat_F {w : World} {b o n C : Nat} {L : Nat → Nat} {Z : Nat → Nat → Nat} (h : MatV w (.slice (some ⟨b, o, none⟩) n C) n L Z) : ∃ F : Nat → Value, (∀ r, r < n → ∃ A l D, F r = .slice A l D ∧ w.cell? ⟨b, o + r, none⟩ = some (.slice A l D)) ∧ ∀ r, r < n → RowV w (F r) (L r) (Z r) := by
  have key : ∀ r, r < n → ∃ x, w.cell? ⟨b, o + r, none⟩ = some x ∧ RowV w x (L r) (Z r) := fun r hr => by
    obtain ⟨A, C', e, _, h3⟩ := h
    injection e with e1 e2 e3
    subst e1
    obtain ⟨b', o', e4, h4⟩ := h3 (by omega)
    injection e4 with e5
    injection e5 with e6 e7
    subst e6
    subst e7
    exact h4 r hr
  have ex : ∀ r, r < n → ∀ x, w.cell? ⟨b, o + r, none⟩ = some x → (w.cell? ⟨b, o + r, none⟩).getD (.bool false) = x := fun r _ x hx => by rw [hx]; rfl
  refine ⟨fun r => (w.cell? ⟨b, o + r, none⟩).getD (.bool false), fun r hr => ?_, fun r hr => ?_⟩
  · obtain ⟨x, hx, A, C', rfl, _⟩ := key r hr
    exact ⟨A, _, C', ex r hr _ hx, hx⟩
  · obtain ⟨x, hx, hv⟩ := key r hr
    show RowV w ((w.cell? ⟨b, o + r, none⟩).getD (.bool false)) (L r) (Z r)
    rw [ex r hr _ hx]; exact hv
theorem form_len {w : World} {base : Nat} {e : TypeId} {v : Value} {n : Nat} {xs : List Value} (h : w.ownsRow base e 1 v n xs) : ∃ A C, v = .slice A n C ∧ n ≤ C := by
  rcases h.2 with ⟨rfl, rfl⟩ | ⟨g, cap, cur, rfl, _, _, hc, _⟩
  · exact ⟨none, 0, rfl, Nat.le_refl _⟩
  · exact ⟨_, _, rfl, hc⟩
theorem sub_nat {n k : Nat} (h : k ≤ n) : (n : Int) - (k : Int) = ((n - k : Nat) : Int) := by omega

set_option maxHeartbeats 1600000 in
theorem decode_lost (bs os Cs n k : Nat) (L : Nat → Nat) (X : Nat → Nat → Nat) (w : World) (k1 : 1 ≤ k) (k2 : k ≤ n) (n64 : n ≤ 64) (hs : MatV w (.slice (some ⟨bs, os, none⟩) n Cs) n L X) (h : ¬ (Fits L n ∧ k ≤ (idx L n).length)) :
    Calls Tryz.prog 43 #[.slice (some ⟨bs, os, none⟩) n Cs, .int .i64 (k : Int)] w fun e w' => (¬ Fits L n ∧ ErrPost 1 w e w') ∨ (Fits L n ∧ (idx L n).length < k ∧ ErrPost 9 w e w') := by
  obtain ⟨F, hF, hFr⟩ := mat_F hs
  have HS := Lib.hid hs
  have HF := Lib.hid hF
  have HFR := Lib.hid hFr
  have HH := Lib.hid h
  have HSUB := Lib.hid (sub_nat k2)
  clear hs hF hFr h
  go_enter Tryz.func43, Tryz.ntmps43
  go_wp2_with fail
  rw [HSUB.out]
  refine (rows_new k (n - k) k1 (by omega) _).mono ?_
  rintro e w1 ⟨vr, rfl, hB, hch1⟩
  clear hB
  have HC1 := Lib.hid hch1
  have HF1 := Lib.hid (show ∀ r, r < n → ∃ A l D, F r = .slice A l D ∧ w1.cell? ⟨bs, os + r, none⟩ = some (.slice A l D) from fun r hr => by
    obtain ⟨A, l, D, e, hc⟩ := HF.out r hr
    exact ⟨A, l, D, e, hch1.cell hc (fun f => f)⟩)
  clear hch1
  go_wp2_with fail
  refine (pick_any _ _ _ _ _ _ n F L X _ (by omega) n64 HF1.out (HS.out.gr HC1.out)).mono ?_
  rintro e w2 ⟨vl, rfl, hown, hch2⟩
  obtain ⟨Al, Cl, rfl, hcl⟩ := form_len hown
  have hlen := idx_len L n
  have hC := HC1.out.trans hch2
  have HM := Lib.hid (owns_mat hown (by omega) (fun r hr => (HFR.out r (idx_mem.1 hr).1).ch hC (fun _ _ f => f)))
  have HC := Lib.hid hC
  clear hown hch2 hC
  by_cases h0 : 0 < (idx L n).length
  · have t1 : decide (0 < (idx L n).length) = true := decide_eq_true h0
    by_cases hfit : Fits L n
    · have HMay := Lib.hid ((may_left n64 h0).2 hfit)
      have hk : (idx L n).length < k := by
        by_cases q : (idx L n).length < k
        · exact q
        · exact absurd ⟨hfit, by omega⟩ HH.out
      have t2 : decide ((idx L n).length < k) = true := by simp; omega
      have HFit := Lib.hid hfit
      clear hfit
      go_wp2_with fail
      refine (may_anyF _ _ _ _ _ HM.out).mono ?_
      rintro e w3 ⟨rfl, rfl⟩
      rw [HMay.out]
      go_wp2
      go_ret2
      exact Or.inr ⟨HFit.out, hk, rfl, HC.out⟩
    · have HMay := Lib.hid (may_left_no n64 h0 hfit)
      have HFit := Lib.hid hfit
      clear hfit
      go_wp2_with fail
      refine (may_anyF _ _ _ _ _ HM.out).mono ?_
      rintro e w3 ⟨rfl, rfl⟩
      rw [HMay.out]
      go_wp2
      go_ret2
      exact Or.inl ⟨HFit.out, rfl, HC.out⟩
  · have t1 : decide (0 < (idx L n).length) = false := decide_eq_false h0
    have hk : (idx L n).length < k := by omega
    have t2 : decide ((idx L n).length < k) = true := by simp; omega
    have HFit := Lib.hid (show Fits L n from fun i hi hi0 => absurd (List.length_pos_of_mem (idx_mem.2 ⟨hi, hi0⟩)) h0)
    go_wp2
    go_ret2
    exact Or.inr ⟨HFit.out, hk, rfl, HC.out⟩
/-! ### enough are left -/
def DecPost (L : Nat → Nat) (n k : Nat) (X : Nat → Nat → Nat) (w : World) (e : Ending) (w' : World) : Prop :=
  ∃ D, DataOf L n k (longZ L n) X D ∧ FreshPost n (longZ L n) (sharesZ k D) w e w'
def SolvedAt (L : Nat → Nat) (n k : Nat) (X : Nat → Nat → Nat) (w : World) (v : Value) (w' : World) : Prop :=
  ∃ V, Both k V (rowsZ L n k) ∧ Bld w.heap.size w' v k (fun _ => longZ L n) (mulZ k V (fun i => X (wh L n i))) ∧ Ch (fun _ => False) w w'
theorem front_may {L : Nat → Nat} {n k : Nat} (hf : Fits L n) (k1 : 1 ≤ k) (k2 : k ≤ 64) (hk : k ≤ (idx L n).length) : mayBF k (fun i => L ((idx L n).getD i 0)) = true := by
  have hb := hf.bounds (by omega)
  exact mayB_mk ⟨k1, k2, hb.1, hb.2, fun r hr => hf.wh (by omega)⟩
theorem dec_bld {base : Nat} {w : World} {v : Value} {n k m : Nat} {D : Nat → Nat → Nat} (hD : AllB D) (hk : k ≤ n) (h : Bld base w v (k + (n - k)) (jn k (fun _ => m) (fun _ => m)) (jz k D (mulZ k (cauZ k) D))) : Bld base w v n (fun _ => m) (sharesZ k D) := by
  have e : k + (n - k) = n := by omega
  rw [e] at h
  exact (BldL.lens h (fun r _ => jn_const k m r)).congr fun r c _ _ => shares_join hD r c
set_option maxHeartbeats 3200000 in
set_option maxRecDepth 100000 in
theorem decode_yes (bs os Cs n k : Nat) (L : Nat → Nat) (X : Nat → Nat → Nat) (hX : AllB X) (w : World) (k1 : 1 ≤ k) (k2 : k ≤ n) (n64 : n ≤ 64) (hs : MatV w (.slice (some ⟨bs, os, none⟩) n Cs) n L X) (hfit : Fits L n) (hk : k ≤ (idx L n).length) :
    Calls Tryz.prog 43 #[.slice (some ⟨bs, os, none⟩) n Cs, .int .i64 (k : Int)] w (DecPost L n k X w) := by
  obtain ⟨F, hF, hFr⟩ := mat_F hs
  have HS := Lib.hid hs
  have HX := Lib.hid hX
  have HF := Lib.hid hF
  have HFR := Lib.hid hFr
  have HFit := Lib.hid hfit
  have HSUB := Lib.hid (sub_nat k2)
  have hlen := idx_len L n
  have HMay := Lib.hid ((may_left n64 (by omega)).2 hfit)
  have HMay2 := Lib.hid (front_may hfit k1 (by omega) hk)
  have t1 : decide (0 < (idx L n).length) = true := decide_eq_true (by omega)
  have t2 : decide ((idx L n).length < k) = false := decide_eq_false (by omega)
  have hlong := hfit.bounds (by omega)
  clear hs hF hFr hfit hX
  go_enter Tryz.func43, Tryz.ntmps43
  go_wp2_with fail
  rw [HSUB.out]
  refine (rows_new k (n - k) k1 (by omega) _).mono ?_
  rintro e w1 ⟨vr, rfl, hB, hch1⟩
  rw [show k + (n - k) = n by omega] at hB
  have hBm := hB.mat (by omega)
  obtain ⟨br, ob, Cr, rfl, _, _⟩ := hBm.some (by omega)
  have HRM := Lib.hid hBm
  have HC1 := Lib.hid hch1
  have HF1 := Lib.hid (show ∀ r, r < n → ∃ A l D, F r = .slice A l D ∧ w1.cell? ⟨bs, os + r, none⟩ = some (.slice A l D) from fun r hr => by
    obtain ⟨A, l, D, e, hc⟩ := HF.out r hr
    exact ⟨A, l, D, e, hch1.cell hc (fun f => f)⟩)
  clear hch1 hB hBm
  go_wp2_with fail
  refine (pick_any _ _ _ _ _ _ n F L X _ (by omega) n64 HF1.out (HS.out.gr HC1.out)).mono ?_
  rintro e w2 ⟨vl, rfl, hown, hch2⟩
  obtain ⟨gl, Cl, rfl, _, _⟩ := World.ownsRow.form hown (by omega)
  obtain ⟨_, Cl', el, hcl⟩ := form_len hown
  obtain rfl : Cl = Cl' := by injection el
  have hC := HC1.out.trans hch2
  have hM := owns_mat hown (by omega) (fun r hr => (HFR.out r (idx_mem.1 hr).1).ch hC (fun _ _ f => f))
  have HM := Lib.hid hM
  have HML := Lib.hid (mat_front hM hk)
  have HC := Lib.hid hC
  have HS2 := Lib.hid (HS.out.gr hC.drew)
  obtain ⟨K, hK, hKr⟩ := mat_F (HRM.out.gr hch2.drew)
  have HK := Lib.hid hK
  have HKR := Lib.hid hKr
  clear hown hch2 hC hM hK hKr el HF HFR HF1 HRM
  go_wp2_with fail
  refine (may_anyF _ _ _ _ _ HM.out).mono ?_
  rintro e w3 ⟨rfl, rfl⟩
  rw [HMay.out]
  go_upto_region 10 with fail
  go_cut [7, 10] (fun t v wx => t = .int .i64 0 ∧ Hid (SolvedAt L n k X w2 v wx))
  case first =>
    go_region_with (first
      | (go_at_call 78; refine (pick_any _ _ _ _ _ _ n K L X _ (by omega) n64 HK.out HS2.out).mono ?_; rintro e w3 ⟨vp, rfl, hown, hch3⟩; obtain ⟨gp, Cp, rfl, _, _⟩ := World.ownsRow.form hown (by omega); obtain ⟨_, Cp', ep, hcp⟩ := form_len hown; obtain rfl : Cp = Cp' := by injection ep)
      | (go_at_call 80; refine (solve_new _ _ k (fun i => L ((idx L n).getD i 0)) (rowsZ L n k) (fun i => X (wh L n i)) _ (mat_front (owns_mat hown (by omega) (fun r hr => (HKR.out r (idx_mem.1 hr).1).ch hch3 (fun _ _ f => f))) hk) (rowsZ_b _ _ _) (rows_left hk n64 k2) (HML.out.gr (((Ch.refl _ w2).drew).trans hch3)) HMay2.out).mono ?_; rintro e w4 ⟨V, hboth, vd, rfl, hBd, hch4⟩))
    all_goals (go_wp2_with fail; go_meet; exact ⟨rfl, Lib.hid ⟨V, hboth, Bld.base hBd hch3.size, (((Ch.refl _ w2).drew).trans hch3).trans hch4⟩⟩)
  case rest =>
    obtain ⟨rfl, HSV⟩ := hcut
    obtain ⟨V, hboth, hBd, hchd⟩ := HSV.out
    obtain ⟨Ad, Cd, rfl, _⟩ := id (hBd.mat (by omega))
    have HBd := Lib.hid hBd
    have HCd := Lib.hid hchd
    have HD := Lib.hid (data_inv (m := longZ L n) HX.out hboth)
    have HMd := Lib.hid (hBd.mat (by omega))
    have HMay3 := Lib.hid (may_const k1 (by omega : k ≤ 64) hlong.1 hlong.2)
    clear hBd hchd hboth HSV
    go_wp2_with fail
    rw [HSUB.out]
    refine (encode_new _ k (n - k) (fun _ => longZ L n) _ _ HMd.out HMay3.out (by omega)).mono ?_
    rintro e w5 ⟨u, rfl, hB5, hch5⟩
    obtain ⟨v', w', hj⟩ := bld_join (BldL.ch HBd.out hch5) hB5 (Nat.le_trans HCd.out.size hch5.size) (by omega) (fun q hq => (BldL.block HBd.out hq).2) HCd.out.size
    have hchw := hj.ch ((HC.out.trans HCd.out).trans hch5) (fun q hq => Nat.le_trans HC.out.size (BldL.block HBd.out hq).1)
    have HJ := Lib.hid hj.1
    have HBJ := Lib.hid hj.2.1
    have HCW := Lib.hid hchw
    clear hB5 hch5 hj hchw
    go_wp2_with (at_builtin; refine wpList_rows_of _ rfl (.tmp 68) (.tmp 69) rfl rfl _ u v' w' rfl rfl HJ.out ?_)
    go_ret2
    exact ⟨_, HD.out, _, rfl, Bld.base (dec_bld HD.out.1 k2 HBJ.out) HC.out.size, HCW.out⟩
end Go.Proofs.YtlbdopcchoklhaaGreat
namespace Go.Proofs.YtlbdopcchoklhaaGreat
open Go.RowKit
set_option linter.unusedVariables false
set_option maxRecDepth 100000

def exD (r c : Nat) : Nat := if r = 0 then 1 else 2
def exL (r : Nat) : Nat := if r = 0 then 0 else 1
def exS (r c : Nat) : Nat := if r = 1 then 2 else 123
def lightB (n : Nat) (L : Nat → Nat) : Bool := decide (n ≤ 20 ∧ ∀ r, r < n → L r ≤ 40)
end Go.Proofs.YtlbdopcchoklhaaGreat
namespace Go.Proofs.YtlbdopcchoklhaaGreat
open Go.ChangeShapes Go.WideShapes Go.ChangeAt Go.RowKit Go.Deep
set_option linter.unusedVariables false
set_option maxRecDepth 100000

section
variable {H : Type} {enc : TypeId × Value → H} {P : Program}
end

/-! ### a list of bools, tto be read -/
def BitsV (w : World) (v : Value) (n : Nat) (z : Nat → Bool) : Prop :=
  ∃ (A : Option Addr) (C : Nat), v = .slice A n C ∧ n ≤ 140737488351232 ∧ (0 < n → ∃ b o, A = some ⟨b, o, none⟩ ∧ ∀ c, c < n → w.cell? ⟨b, o + c, none⟩ = some (.bool (z c)))
theorem BitsV.gr {w w' : World} {v : Value} {n : Nat} {z : Nat → Bool} (h : BitsV w v n z) (k : Ch (fun _ => False) w w') : BitsV w' v n z := by
  obtain ⟨A, C, h1, h2, h3⟩ := h
  refine ⟨A, C, h1, h2, fun hl => ?_⟩
  obtain ⟨b, o, hA, hc⟩ := h3 hl
  exact ⟨b, o, hA, fun c hcl => k.cell (hc c hcl) (fun f => f)⟩
end Go.Proofs.YtlbdopcchoklhaaGreat
namespace Go.Proofs.YtlbdopcchoklhaaGreat
open Go.RowKit
set_option linter.unusedVariables false
set_option maxRecDepth 100000

/-- append(append([][]byte(nil), data...), rest...) -/
def AllAt (w : World) (data rest : Value) (n m l : Nat) (X : Nat → Nat → Nat) (v1 : Value) (w1 : World) (v2 : Value) (w2 : World) : Prop :=
  (Builtin.append_ #[ /-t-/37, /-t-/37] /-t-/37 #[.slice none 0 0, data]).run Tryz.prog w = .ok v1 w1 ∧ (Builtin.append_ #[ /-t-/37, /-t-/37] /-t-/37 #[v1, rest]).run Tryz.prog w1 = .ok v2 w2 ∧ BldL w.heap.size 0 w2 v2 (n + m) (fun _ => l) (sharesZ n X) ∧ Ch (fun _ => False) w w2
/-- The lengths of shares of which some are lost. -/
def lostL (nb : Nat) (z : Nat → Bool) (l r : Nat) : Nat := if r < nb ∧ z r = true then 0 else l
end Go.Proofs.YtlbdopcchoklhaaGreat
namespace Go.Proofs.YtlbdopcchoklhaaGreat
open Go.RowKit
set_option linter.unusedVariables false
set_option maxRecDepth 100000

/-! ### two lists that are built side by side -/
def upF (F : Nat → Value) (i : Nat) (u : Value) (r : Nat) : Value := if r = i then u else F r
theorem vals_up (F : Nat → Value) (i : Nat) (u : Value) : valsL (i + 1) (upF F i u) = valsL i F ++ [u] := by
  unfold valsL
  rw [List.range_succ, List.map_append]
  congr 1
  · exact List.map_congr_left fun r hr => by unfold upF; rw [if_neg (by have := List.mem_range.1 hr; omega)]
  · simp [upF]
theorem vals_congr {n : Nat} {F G : Nat → Value} (h : ∀ r, r < n → F r = G r) : valsL n F = valsL n G := List.map_congr_left fun r hr => h r (List.mem_range.1 hr)
theorem owns_set {W : World} {base : Nat} {e : TypeId} {g n cap i : Nat} {F : Nat → Value} (h : W.ownsRow base e 1 (.slice (some ⟨g, 0, none⟩) n cap) n (valsL n F)) (hi : i < n) (u : Value) : (W.setCell ⟨g, i, none⟩ u).ownsRow base e 1 (.slice (some ⟨g, 0, none⟩) n cap) n (valsL n (upF F i u)) := by
  refine ⟨by unfold valsL; simp, ?_⟩
  rcases h.2 with ⟨hn, _⟩ | ⟨g', cap', cur, he, hb, hgg, hcap, hm, hs, ht⟩
  · cases hn
  · injection he with he1 he2 he3
    injection he1 with he1
    injection he1 with he4
    subst he4
    subst he3
    refine Or.inr ⟨g, cap, cur.setIfInBounds i u, rfl, hb, ?_, hcap, hm, by simpa using hs, ?_⟩
    · simp [World.setCell, Array.getElem?_modify, hgg]
    · refine List.ext_getElem? fun j => ?_
      rw [Nat.mul_one, List.getElem?_take]
      by_cases hj : j < n
      · rw [if_pos hj, valsL_get hj, Array.getElem?_toList, Array.getElem?_setIfInBounds]
        have hcj : cur[j]? = some (F j) := by
          have := congrArg (fun l : List Value => l[j]?) ht
          simp only [Nat.mul_one, List.getElem?_take, if_pos hj, Array.getElem?_toList] at this
          rw [this]; exact valsL_get hj
        unfold upF
        by_cases q : i = j
        · rw [if_pos q, if_pos q.symm, if_pos (by omega)]
        · rw [if_neg q, if_neg (fun e => q e.symm)]; exact hcj
      · rw [if_neg hj, List.getElem?_eq_none (by unfold valsL; simp; omega)]
theorem owns_elsewhere {w : World} {base : Nat} {e : TypeId} {v : Value} {n : Nat} {xs : List Value} (h : w.ownsRow base e 1 v n xs) {p : Addr} (hp : v.ownBlock ≠ some p.block) (u : Value) : (w.setCell p u).ownsRow base e 1 v n xs := by
  refine ⟨h.1, ?_⟩
  rcases h.2 with hn | ⟨g, cap, cur, rfl, hb, hgg, rest⟩
  · exact Or.inl hn
  · exact Or.inr ⟨g, cap, cur, rfl, hb, (Below.heap_setCell w p u g (fun e => hp (by rw [e]; rfl))).trans hgg, rest⟩
structure TwoRel (w4 W : World) (vx : Value) (i : Nat) (Fx : Nat → Value) (vy : Value) (j : Nat) (Fy : Nat → Value) : Prop where
  ch : Ch (fun _ => False) w4 W
  x : W.ownsRow w4.heap.size /-t-/24 1 vx i (valsL i Fx)
  y : W.ownsRow w4.heap.size /-t-/24 1 vy j (valsL j Fy)
  ap : ∀ q, vx.ownBlock = some q → vy.ownBlock ≠ some q
theorem TwoRel.app {w4 W w5 : World} {vx vy u : Value} {i j g cap : Nat} {Fx Fy : Nat → Value} (h : TwoRel w4 W vx i Fx vy j Fy) (h1 : w5.ownsRow w4.heap.size /-t-/24 1 (.slice (some ⟨g, 0, none⟩) (i + 1) cap) (i + 1) (valsL i Fx ++ [u])) (h2 : (W.alloc (.cells #[u] /-t-/24)).grownBy w5 vx.ownBlock) (h3 : vx.ownBlock = some g ∨ g = W.heap.size + 1) :
    TwoRel w4 w5 (.slice (some ⟨g, 0, none⟩) (i + 1) cap) (i + 1) (upF Fx i u) vy j Fy := by
  refine ⟨(h.ch.alloc _ _).grown h2 (fun i hi => Or.inr (World.ownsRow.lt h.x i hi).1), by rw [vals_up]; exact h1, (h.y.alloc _).kept h2 ?_, fun q hq e => ?_⟩
  · cases hv : vy.ownBlock with
    | none => exact Or.inl rfl
    | some q => exact Or.inr fun e => h.ap q e.symm hv
  · have e' : g = q := by simpa [Value.ownBlock] using hq
    rcases h3 with h3 | h3
    · exact h.ap g h3 (by rw [e']; exact e)
    · have := (World.ownsRow.lt h.y q e).2
      omega
theorem TwoRel.set {w4 W : World} {vy u : Value} {n j g cap i : Nat} {Fx Fy : Nat → Value} (h : TwoRel w4 W (.slice (some ⟨g, 0, none⟩) n cap) n Fx vy j Fy) (hi : i < n) (u : Value) : TwoRel w4 (W.setCell ⟨g, i, none⟩ u) (.slice (some ⟨g, 0, none⟩) n cap) n (upF Fx i u) vy j Fy :=
  ⟨h.ch.setCell (p := ⟨g, i, none⟩) (Or.inr (World.ownsRow.lt h.x g rfl).1) _, owns_set h.x hi u, owns_elsewhere h.y (p := ⟨g, i, none⟩) (h.ap g rfl) u, h.ap⟩
theorem TwoRel.congr {w4 W : World} {vx vy : Value} {i j : Nat} {Fx Fy Gx Gy : Nat → Value} (h : TwoRel w4 W vx i Fx vy j Fy) (hx : ∀ r, r < i → Fx r = Gx r) (hy : ∀ r, r < j → Fy r = Gy r) : TwoRel w4 W vx i Gx vy j Gy :=
  ⟨h.ch, by rw [← vals_congr hx]; exact h.x, by rw [← vals_congr hy]; exact h.y, h.ap⟩
def lostF (nb : Nat) (z : Nat → Bool) (G : Nat → Value) (r : Nat) : Value := if r < nb ∧ z r = true then .slice none 0 0 else G r
/-! ### Decode of such shares -/
def LostAns (n N l : Nat) (X : Nat → Nat → Nat) (w : World) (e : Ending) (w' : World) : Prop :=
  ∃ (A : Option Addr) (len C : Nat) (k : Int), e = .returned (.tuple #[.slice A len C, .int .i64 k]) ∧ Ch (fun _ => False) w w' ∧ ((k = 0 ∧ MatV w' (.slice A len C) N (fun _ => l) (sharesZ n X)) ∨ k = 9)
end Go.Proofs.YtlbdopcchoklhaaGreat
