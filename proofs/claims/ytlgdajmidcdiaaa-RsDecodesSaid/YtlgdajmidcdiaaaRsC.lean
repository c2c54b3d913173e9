/-
  rs.Decode, walked.
-/
import Derived.Test.YtlgdajmidcdiaaaRsB
import Derived.Deep.DeepCutAuto
namespace Go.Proofs.Ytlgdajmidcdiaaa
open Go.RowKit
set_option linter.unusedVariables false

set_option maxHeartbeats 800000 in
theorem decode_argA (A : Option Addr) (n C : Nat) (k : Int) (w : World) (h : ¬ (1 ≤ k ∧ k ≤ 64)) : Calls Try.prog 17 #[.slice A n C, .int .i64 k] w (ErrPost 1 w) := by
  go_enter Try.func17, Try.ntmps17
  go_wp2_with fail
  refine (rows_no _ _ (fun q => by omega) _).mono ?_
  rintro e w1 ⟨rfl, hch⟩
  go_wp2
  go_ret2
  exact ⟨rfl, hch⟩
set_option maxHeartbeats 800000 in
theorem decode_argB (A : Option Addr) (n C : Nat) (k : Int) (w : World) (hn : n ≤ 140737488351232) (k1 : 1 ≤ k) (k2 : k ≤ 64) (h : ¬ (k ≤ n ∧ n ≤ 64)) : Calls Try.prog 17 #[.slice A n C, .int .i64 k] w (ErrPost 1 w) := by
  have HH := Lib.hid h
  clear h
  go_enter Try.func17, Try.ntmps17
  go_wp2_with fail
  refine (rows_no _ _ (fun q => by have := HH.out; omega) _).mono ?_
  rintro e w1 ⟨rfl, hch⟩
  go_wp2
  go_ret2
  exact ⟨rfl, hch⟩
/-- A matrix' rows as values, all of them slices. -/
theorem mat_F {w : World} {b o n C : Nat} {L : Nat → Nat} {Z : Nat → Nat → Nat} (h : MatV w (.slice (some ⟨b, o, none⟩) n C) n L Z) : ∃ F : Nat → Value, (∀ r, r < n → ∃ A l D, F r = .slice A l D ∧ w.cell? ⟨b, o + r, none⟩ = some (.slice A l D)) ∧ ∀ r, r < n → RowV w (F r) (L r) (Z r) := by
  have key : ∀ r, r < n → ∃ x, w.cell? ⟨b, o + r, none⟩ = some x ∧ RowV w x (L r) (Z r) := fun r hr => by
    obtain ⟨A, C', e, _, h3⟩ := h
    injection e with e1 e2 e3
    subst e1
    obtain ⟨b', o', e4, h4⟩ := h3 (by omega)
    injection e4 with e5
    injection e5 with e6 e7
    subst e6
    subst e7
    exact h4 r hr
  have ex : ∀ r, r < n → ∀ x, w.cell? ⟨b, o + r, none⟩ = some x → (w.cell? ⟨b, o + r, none⟩).getD (.bool false) = x := fun r _ x hx => by rw [hx]; rfl
  refine ⟨fun r => (w.cell? ⟨b, o + r, none⟩).getD (.bool false), fun r hr => ?_, fun r hr => ?_⟩
  · obtain ⟨x, hx, A, C', rfl, _⟩ := key r hr
    exact ⟨A, _, C', ex r hr _ hx, hx⟩
  · obtain ⟨x, hx, hv⟩ := key r hr
    show RowV w ((w.cell? ⟨b, o + r, none⟩).getD (.bool false)) (L r) (Z r)
    rw [ex r hr _ hx]; exact hv
theorem form_len {w : World} {base : Nat} {e : TypeId} {v : Value} {n : Nat} {xs : List Value} (h : w.ownsRow base e 1 v n xs) : ∃ A C, v = .slice A n C ∧ n ≤ C := by
  rcases h.2 with ⟨rfl, rfl⟩ | ⟨g, cap, cur, rfl, _, _, hc, _⟩
  · exact ⟨none, 0, rfl, Nat.le_refl _⟩
  · exact ⟨_, _, rfl, hc⟩
theorem sub_nat {n k : Nat} (h : k ≤ n) : (n : Int) - (k : Int) = ((n - k : Nat) : Int) := by omega

set_option maxHeartbeats 1600000 in
theorem decode_lost (bs os Cs n k : Nat) (L : Nat → Nat) (X : Nat → Nat → Nat) (w : World) (k1 : 1 ≤ k) (k2 : k ≤ n) (n64 : n ≤ 64) (hs : MatV w (.slice (some ⟨bs, os, none⟩) n Cs) n L X) (h : ¬ (Fits L n ∧ k ≤ (idx L n).length)) :
    Calls Try.prog 17 #[.slice (some ⟨bs, os, none⟩) n Cs, .int .i64 (k : Int)] w fun e w' => (¬ Fits L n ∧ ErrPost 1 w e w') ∨ (Fits L n ∧ (idx L n).length < k ∧ ErrPost 9 w e w') := by
  obtain ⟨F, hF, hFr⟩ := mat_F hs
  have HS := Lib.hid hs
  have HF := Lib.hid hF
  have HFR := Lib.hid hFr
  have HH := Lib.hid h
  have HSUB := Lib.hid (sub_nat k2)
  clear hs hF hFr h
  go_enter Try.func17, Try.ntmps17
  go_wp2_with fail
  rw [HSUB.out]
  refine (rows_new k (n - k) k1 (by omega) _).mono ?_
  rintro e w1 ⟨vr, rfl, hB, hch1⟩
  clear hB
  have HC1 := Lib.hid hch1
  have HF1 := Lib.hid (show ∀ r, r < n → ∃ A l D, F r = .slice A l D ∧ w1.cell? ⟨bs, os + r, none⟩ = some (.slice A l D) from fun r hr => by
    obtain ⟨A, l, D, e, hc⟩ := HF.out r hr
    exact ⟨A, l, D, e, hch1.cell hc (fun f => f)⟩)
  clear hch1
  go_wp2_with fail
  refine (pick_any _ _ _ _ _ _ n F L X _ (by omega) n64 HF1.out (HS.out.gr HC1.out)).mono ?_
  rintro e w2 ⟨vl, rfl, hown, hch2⟩
  obtain ⟨Al, Cl, rfl, hcl⟩ := form_len hown
  have hlen := idx_len L n
  have hC := HC1.out.trans hch2
  have HM := Lib.hid (owns_mat hown (by omega) (fun r hr => (HFR.out r (idx_mem.1 hr).1).ch hC (fun _ _ f => f)))
  have HC := Lib.hid hC
  clear hown hch2 hC
  by_cases h0 : 0 < (idx L n).length
  · have t1 : decide (0 < (idx L n).length) = true := decide_eq_true h0
    by_cases hfit : Fits L n
    · have HMay := Lib.hid ((may_left n64 h0).2 hfit)
      have hk : (idx L n).length < k := by
        by_cases q : (idx L n).length < k
        · exact q
        · exact absurd ⟨hfit, by omega⟩ HH.out
      have t2 : decide ((idx L n).length < k) = true := by simp; omega
      have HFit := Lib.hid hfit
      clear hfit
      go_wp2_with fail
      refine (may_any _ _ _ _ _ HM.out).mono ?_
      rintro e w3 ⟨rfl, rfl⟩
      rw [HMay.out]
      go_wp2
      go_ret2
      exact Or.inr ⟨HFit.out, hk, rfl, HC.out⟩
    · have HMay := Lib.hid (may_left_no n64 h0 hfit)
      have HFit := Lib.hid hfit
      clear hfit
      go_wp2_with fail
      refine (may_any _ _ _ _ _ HM.out).mono ?_
      rintro e w3 ⟨rfl, rfl⟩
      rw [HMay.out]
      go_wp2
      go_ret2
      exact Or.inl ⟨HFit.out, rfl, HC.out⟩
  · have t1 : decide (0 < (idx L n).length) = false := decide_eq_false h0
    have hk : (idx L n).length < k := by omega
    have t2 : decide ((idx L n).length < k) = true := by simp; omega
    have HFit := Lib.hid (show Fits L n from fun i hi hi0 => absurd (List.length_pos_of_mem (idx_mem.2 ⟨hi, hi0⟩)) h0)
    go_wp2
    go_ret2
    exact Or.inr ⟨HFit.out, hk, rfl, HC.out⟩
#print axioms decode_lost

/-! ### enough are left -/
def DecPost (L : Nat → Nat) (n k : Nat) (X : Nat → Nat → Nat) (w : World) (e : Ending) (w' : World) : Prop :=
  ∃ D, DataOf L n k (longZ L n) X D ∧ FreshPost n (longZ L n) (sharesZ k D) w e w'
def SolvedAt (L : Nat → Nat) (n k : Nat) (X : Nat → Nat → Nat) (w : World) (v : Value) (w' : World) : Prop :=
  ∃ V, Both k V (rowsZ L n k) ∧ Bld w.heap.size w' v k (fun _ => longZ L n) (mulZ k V (fun i => X (wh L n i))) ∧ Ch (fun _ => False) w w'
theorem front_may {L : Nat → Nat} {n k : Nat} (hf : Fits L n) (k1 : 1 ≤ k) (k2 : k ≤ 64) (hk : k ≤ (idx L n).length) : mayB k (fun i => L ((idx L n).getD i 0)) = true := by
  have hb := hf.bounds (by omega)
  exact mayB_mk ⟨k1, k2, hb.1, hb.2, fun r hr => hf.wh (by omega)⟩
theorem dec_bld {base : Nat} {w : World} {v : Value} {n k m : Nat} {D : Nat → Nat → Nat} (hD : AllB D) (hk : k ≤ n) (h : Bld base w v (k + (n - k)) (jn k (fun _ => m) (fun _ => m)) (jz k D (mulZ k (cauZ k) D))) : Bld base w v n (fun _ => m) (sharesZ k D) := by
  have e : k + (n - k) = n := by omega
  rw [e] at h
  exact (BldL.lens h (fun r _ => jn_const k m r)).congr fun r c _ _ => shares_join hD r c
set_option maxHeartbeats 3200000 in
set_option maxRecDepth 100000 in
theorem decode_yes (bs os Cs n k : Nat) (L : Nat → Nat) (X : Nat → Nat → Nat) (hX : AllB X) (w : World) (k1 : 1 ≤ k) (k2 : k ≤ n) (n64 : n ≤ 64) (hs : MatV w (.slice (some ⟨bs, os, none⟩) n Cs) n L X) (hfit : Fits L n) (hk : k ≤ (idx L n).length) :
    Calls Try.prog 17 #[.slice (some ⟨bs, os, none⟩) n Cs, .int .i64 (k : Int)] w (DecPost L n k X w) := by
  obtain ⟨F, hF, hFr⟩ := mat_F hs
  have HS := Lib.hid hs
  have HX := Lib.hid hX
  have HF := Lib.hid hF
  have HFR := Lib.hid hFr
  have HFit := Lib.hid hfit
  have HSUB := Lib.hid (sub_nat k2)
  have hlen := idx_len L n
  have HMay := Lib.hid ((may_left n64 (by omega)).2 hfit)
  have HMay2 := Lib.hid (front_may hfit k1 (by omega) hk)
  have t1 : decide (0 < (idx L n).length) = true := decide_eq_true (by omega)
  have t2 : decide ((idx L n).length < k) = false := decide_eq_false (by omega)
  have hlong := hfit.bounds (by omega)
  clear hs hF hFr hfit hX
  go_enter Try.func17, Try.ntmps17
  go_wp2_with fail
  rw [HSUB.out]
  refine (rows_new k (n - k) k1 (by omega) _).mono ?_
  rintro e w1 ⟨vr, rfl, hB, hch1⟩
  rw [show k + (n - k) = n by omega] at hB
  have hBm := hB.mat (by omega)
  obtain ⟨br, ob, Cr, rfl, _, _⟩ := hBm.some (by omega)
  have HRM := Lib.hid hBm
  have HC1 := Lib.hid hch1
  have HF1 := Lib.hid (show ∀ r, r < n → ∃ A l D, F r = .slice A l D ∧ w1.cell? ⟨bs, os + r, none⟩ = some (.slice A l D) from fun r hr => by
    obtain ⟨A, l, D, e, hc⟩ := HF.out r hr
    exact ⟨A, l, D, e, hch1.cell hc (fun f => f)⟩)
  clear hch1 hB hBm
  go_wp2_with fail
  refine (pick_any _ _ _ _ _ _ n F L X _ (by omega) n64 HF1.out (HS.out.gr HC1.out)).mono ?_
  rintro e w2 ⟨vl, rfl, hown, hch2⟩
  obtain ⟨gl, Cl, rfl, _, _⟩ := World.ownsRow.form hown (by omega)
  obtain ⟨_, Cl', el, hcl⟩ := form_len hown
  obtain rfl : Cl = Cl' := by injection el
  have hC := HC1.out.trans hch2
  have hM := owns_mat hown (by omega) (fun r hr => (HFR.out r (idx_mem.1 hr).1).ch hC (fun _ _ f => f))
  have HM := Lib.hid hM
  have HML := Lib.hid (mat_front hM hk)
  have HC := Lib.hid hC
  have HS2 := Lib.hid (HS.out.gr hC.drew)
  obtain ⟨K, hK, hKr⟩ := mat_F (HRM.out.gr hch2.drew)
  have HK := Lib.hid hK
  have HKR := Lib.hid hKr
  clear hown hch2 hC hM hK hKr el HF HFR HF1 HRM
  go_wp2_with fail
  refine (may_any _ _ _ _ _ HM.out).mono ?_
  rintro e w3 ⟨rfl, rfl⟩
  rw [HMay.out]
  go_upto_region 10 with fail
  go_cut [7, 10] (fun t v wx => t = .int .i64 0 ∧ Hid (SolvedAt L n k X w2 v wx))
  case first =>
    go_region_with (first
      | (go_at_call 29; refine (pick_any _ _ _ _ _ _ n K L X _ (by omega) n64 HK.out HS2.out).mono ?_; rintro e w3 ⟨vp, rfl, hown, hch3⟩; obtain ⟨gp, Cp, rfl, _, _⟩ := World.ownsRow.form hown (by omega); obtain ⟨_, Cp', ep, hcp⟩ := form_len hown; obtain rfl : Cp = Cp' := by injection ep)
      | (go_at_call 30; refine (solve_new _ _ k (fun i => L ((idx L n).getD i 0)) (rowsZ L n k) (fun i => X (wh L n i)) _ (mat_front (owns_mat hown (by omega) (fun r hr => (HKR.out r (idx_mem.1 hr).1).ch hch3 (fun _ _ f => f))) hk) (rowsZ_b _ _ _) (rows_left hk n64 k2) (HML.out.gr (((Ch.refl _ w2).drew).trans hch3)) HMay2.out).mono ?_; rintro e w4 ⟨V, hboth, vd, rfl, hBd, hch4⟩))
    all_goals (go_wp2_with fail; go_meet; exact ⟨rfl, Lib.hid ⟨V, hboth, Bld.base hBd hch3.size, (((Ch.refl _ w2).drew).trans hch3).trans hch4⟩⟩)
  case rest =>
    obtain ⟨rfl, HSV⟩ := hcut
    obtain ⟨V, hboth, hBd, hchd⟩ := HSV.out
    obtain ⟨Ad, Cd, rfl, _⟩ := id (hBd.mat (by omega))
    have HBd := Lib.hid hBd
    have HCd := Lib.hid hchd
    have HD := Lib.hid (data_inv (m := longZ L n) HX.out hboth)
    have HMd := Lib.hid (hBd.mat (by omega))
    have HMay3 := Lib.hid (may_const k1 (by omega : k ≤ 64) hlong.1 hlong.2)
    clear hBd hchd hboth HSV
    go_wp2_with fail
    rw [HSUB.out]
    refine (encode_new _ k (n - k) (fun _ => longZ L n) _ _ HMd.out HMay3.out (by omega)).mono ?_
    rintro e w5 ⟨u, rfl, hB5, hch5⟩
    obtain ⟨v', w', hj⟩ := bld_join (BldL.ch HBd.out hch5) hB5 (Nat.le_trans HCd.out.size hch5.size) (by omega) (fun q hq => (BldL.block HBd.out hq).2) HCd.out.size
    have hchw := hj.ch ((HC.out.trans HCd.out).trans hch5) (fun q hq => Nat.le_trans HC.out.size (BldL.block HBd.out hq).1)
    have HJ := Lib.hid hj.1
    have HBJ := Lib.hid hj.2.1
    have HCW := Lib.hid hchw
    clear hB5 hch5 hj hchw
    go_wp2_with (at_builtin; refine wpList_rows_of _ rfl (.tmp 68) (.tmp 69) rfl rfl _ u v' w' rfl rfl HJ.out ?_)
    go_ret2
    exact ⟨_, HD.out, _, rfl, Bld.base (dec_bld HD.out.1 k2 HBJ.out) HC.out.size, HCW.out⟩
#print axioms decode_yes
end Go.Proofs.Ytlgdajmidcdiaaa
