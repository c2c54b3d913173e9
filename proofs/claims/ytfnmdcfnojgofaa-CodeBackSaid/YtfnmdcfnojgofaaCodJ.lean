/-
  (*code.In).Bytes, walked.
-/
import Derived.Test.YtfnmdcfnojgofaaCodI
namespace Go.Proofs.Ytfnmdcfnojgofaa
open Go.RowKit Go.Shelf Cod
set_option linter.unusedVariables false

/-- What is wrong with bytes; how many there are; how much is gone through. -/
def bE (n : Nat) (z : Nat → Nat) (k e : Nat) : Nat := if resE T63 z k e = 0 then if resV T63 z k e ≤ 4096 then if resV T63 z k e ≤ n - resK T63 z k e then 0 else 6 else 2 else resE T63 z k e
def bL (n : Nat) (z : Nat → Nat) (k e : Nat) : Nat := if bE n z k e = 0 then resV T63 z k e else 0
def bK (n : Nat) (z : Nat → Nat) (k e : Nat) : Nat := if bE n z k e = 0 then resK T63 z k e + resV T63 z k e else 0
theorem b_bad {n : Nat} {z : Nat → Nat} {k e : Nat} (h : ¬ bE n z k e = 0) : bL n z k e = 0 ∧ bK n z k e = 0 := by unfold bL bK; rw [if_neg h, if_neg h]; exact ⟨rfl, rfl⟩
theorem b_ok {n : Nat} {z : Nat → Nat} {k e : Nat} (h : bE n z k e = 0) : bL n z k e = resV T63 z k e ∧ bK n z k e = resK T63 z k e + resV T63 z k e ∧ resE T63 z k e = 0 ∧ resV T63 z k e ≤ 4096 ∧ resV T63 z k e ≤ n - resK T63 z k e := by
  unfold bL bK
  rw [if_pos h, if_pos h]
  unfold bE at h
  split at h
  · split at h
    · split at h
      · rename_i h1 h2 h3; exact ⟨rfl, rfl, h1, h2, h3⟩
      · cases h
    · cases h
  · rename_i h1; exact absurd h h1
theorem bE_wrong {n : Nat} {z : Nat → Nat} {k e : Nat} (h : ¬ resE T63 z k e = 0) : bE n z k e = resE T63 z k e := by unfold bE; rw [if_neg h]
theorem bE_long {n : Nat} {z : Nat → Nat} {k e : Nat} (h : resE T63 z k e = 0) (h2 : ¬ resV T63 z k e ≤ 4096) : bE n z k e = 2 := by unfold bE; rw [if_pos h, if_neg h2]
theorem bE_short {n : Nat} {z : Nat → Nat} {k e : Nat} (h : resE T63 z k e = 0) (h2 : resV T63 z k e ≤ 4096) (h3 : ¬ resV T63 z k e ≤ n - resK T63 z k e) : bE n z k e = 6 := by unfold bE; rw [if_pos h, if_pos h2, if_neg h3]
theorem bE_fine {n : Nat} {z : Nat → Nat} {k e : Nat} (h : resE T63 z k e = 0) (h2 : resV T63 z k e ≤ 4096) (h3 : resV T63 z k e ≤ n - resK T63 z k e) : bE n z k e = 0 := by unfold bE; rw [if_pos h, if_pos h2, if_pos h3]
def BytesPost (B n : Nat) (x : Value) (z : Nat → Nat) (k e : Nat) (w : World) (en : Ending) (w' : World) : Prop :=
  ∃ y, en = .returned (.tuple #[y, .int .i64 (bE n z k e : Int)]) ∧ RowV w' y (bL n z k e) (fun i => z (resK T63 z k e + i)) ∧ Off (fun i => i < w.heap.size) y ∧
    ∃ x', InIs w' B x' (n - bK n z k e) (fun i => z (bK n z k e + i)) ∧ (∀ S, Off S x → Off S x') ∧ Ch (fun i => i = B) w w'
theorem owns_off {w : World} {base k : Nat} {v : Value} {xs : List Value} (h : w.ownsRow base /-t-/5 1 v k xs) : Off (fun i => i < base) v := fun b o m C e hb => by
  subst e
  have := (World.ownsRow.lt h b rfl).1
  omega
theorem bytes_bad {B n k e E : Nat} {x : Value} {z : Nat → Nat} {w w' : World} (hE : bE n z k e = E) (h0 : ¬ E = 0) (h : InIs w B x n z) (hch : Ch (fun _ => False) w w') :
    BytesPost B n x z k e w (.returned (.tuple #[.slice none 0 0, .int .i64 (E : Int)])) w' := by
  obtain ⟨h1, h2⟩ := b_bad (hE ▸ h0)
  refine ⟨.slice none 0 0, by rw [hE], by rw [h1]; exact nil_row _ _, Off.zero, x, ?_, fun S h => h, hch.toN⟩
  rw [h2]
  exact (h.gr hch).congr (by omega) (fun i _ => by rw [Nat.zero_add])
theorem ahead_is {w : World} {B n : Nat} {x : Value} {z : Nat → Nat} (h : InIs w B x n z) : InIs (w.alloc (.cells #[x] 55)) w.heap.size x n z := by
  exact ⟨Boxed.new w _ _, h.row.gr ((Ch.refl _ w).alloc _ _), h.nn⟩
theorem Ch.newer {w w1 w2 : World} {B : Nat} (h : Ch (fun _ => False) w w1) (k : Ch (fun i => i = B) w1 w2) (hB : w.heap.size ≤ B) : Ch (fun _ => False) w w2 := h.new (k.mono (fun i _ e => by rw [e]; exact hB))
theorem bytes_good {B n k e K V : Nat} {x x' v : Value} {z : Nat → Nat} {w w1 w3 : World} (hE : bE n z k e = 0) (hL : bL n z k e = V) (hK : bK n z k e = K + V) (hKK : K = resK T63 z k e) (h : InIs w B x n z) (hch1 : Ch (fun _ => False) w w1)
    (hx : RowV w1 x' (n - K - V) (fun i => z (K + (V + i)))) (hnn : NN x') (hoff : Off (fun i => i = B) x') (hoff2 : ∀ S, Off S x → Off S x')
    (hv : w3.ownsRow (w1.setCell ⟨B, 0, none⟩ x').heap.size /-t-/5 1 v V (bytesL V (fun i => z (K + i)))) (hc : Ch (fun _ => False) (w1.setCell ⟨B, 0, none⟩ x') w3) (hby : Bytes V (fun i => z (K + i))) (hV : V ≤ 4096) :
    BytesPost B n x z k e w (.returned (.tuple #[v, .int .i64 0])) w3 := by
  have h1 := h.gr hch1
  have hs := (set_ch w1 B x').size
  refine ⟨v, by rw [hE]; rfl, ?_, (owns_off hv).mono (fun i hi => by have := hch1.size; omega), x', ?_, hoff2, (hch1.toS (p := ⟨B, 0, none⟩) rfl x').trans hc.toN⟩
  · rw [hL, ← hKK]; exact ownsRow_rowV hv (by omega) hby
  · have h2 : InIs (w1.setCell ⟨B, 0, none⟩ x') B x' (n - K - V) (fun i => z (K + (V + i))) := ⟨h1.box.set x', hx.off (set_ch w1 B x') hoff, hnn⟩
    refine (h2.gr hc).congr (by rw [hK]; omega) (fun i _ => by rw [hK, Nat.add_assoc])
set_option maxHeartbeats 1000000 in
theorem ibytes_any (B n : Nat) (x : Value) (z : Nat → Nat) (k e : Nat) (w : World) (h : InIs w B x n z) (hr : Rd n z k e) (hn : n ≤ 1048576) :
    Calls Try.prog 21 #[.pointer (some ⟨B, 0, none⟩)] w (BytesPost B n x z k e w) := by
  obtain ⟨A, C, rfl, hl, _⟩ := id h.row
  have HN := Lib.hid (inum_any w.heap.size n (.slice A n C) z k e _ (ahead_is h) hr)
  have HCA := Lib.hid (show Ch (fun _ => False) w (w.alloc (.cells #[.slice A n C] 55)) from (Ch.refl _ w).alloc _ _)
  have HC := Lib.hid h.cell
  have HH := Lib.hid h
  have hv : (resV T63 z k e : Int) ≤ 9223372036854775807 := by have := resV_le T63 z k e; unfold T63 at this; unfold T63; omega
  have hBB : B < w.heap.size := h.box.lt
  by_cases hE : resE T63 z k e = 0
  · have t1 : ((resE T63 z k e : Int) != 0) = false := by simpa using hE
    by_cases h4 : resV T63 z k e ≤ 4096
    · have t2 : decide ((4096 : Int) < (resV T63 z k e : Int)) = false := by simp; omega
      by_cases h5 : resV T63 z k e ≤ n - resK T63 z k e
      · have HE := Lib.hid (bE_fine hE h4 h5)
        have HK := Lib.hid (b_ok (bE_fine hE h4 h5))
        obtain ⟨V, hV⟩ : ∃ V, V = resV T63 z k e := ⟨_, rfl⟩
        obtain ⟨K, hK⟩ : ∃ K, K = resK T63 z k e := ⟨_, rfl⟩
        obtain ⟨M, hM⟩ : ∃ M, M = n - K := ⟨_, rfl⟩
        rw [← hV] at HN HK t2 h4 h5 hv
        rw [← hK] at HN HK h5
        rw [← hM] at HK h5
        rw [hE] at HN
        have t3 : decide (M < V) = false := by simp; omega
        have HKK := Lib.hid hK
        have HMM := Lib.hid hM
        have hV4 := h4
        have hVM := h5
        clear hV hK hM t1
        clear h hl hr hE h4 h5
        go_enter Try.func21, Try.ntmps21
        go_wp2_with fail
        refine (rest_any B A n C _ HC.out).mono ?_
        rintro e' w' ⟨rfl, rfl⟩
        go_wp2_with fail
        refine HN.out.mono ?_
        rintro e' w1 ⟨rfl, x1, hx1, ho1, hch1⟩
        have HC1 := Lib.hid (HCA.out.newer hch1 (Nat.le_refl _))
        rw [← HMM.out] at hx1
        obtain ⟨A1, D, rfl, hl1, hr1⟩ := id hx1.row
        have HB1 := Lib.hid (HH.out.gr HC1.out)
        have ca := hx1.cell
        have cb := HB1.out.cell
        have fb := HB1.out.box.frozen
        have HX := Lib.hid hx1
        have hoB := ho1 _ HH.out.off
        have hl2 := hl1.1
        have hl3 := hl1.2
        have hq1 : ¬ w.heap.size = B := by omega
        have hq2 : ¬ B = w.heap.size := by omega
        cases A1 with
        | none =>
          have hM : M = 0 := by
            rcases Nat.eq_zero_or_pos M with q | q
            · exact q
            · obtain ⟨_, _, q, _⟩ := hr1 q; cases q
          obtain rfl := hx1.nn.1 _ _ rfl
          subst hM
          obtain rfl : V = 0 := by omega
          clear hx1 hr1 hl1 hch1
          go_wp2_with fail
          refine (left_any w.heap.size 0 _ _ _ HX.out).mono ?_
          rintro e' w' ⟨rfl, rfl⟩
          go_wp2_with fail
          refine (clone_any none 0 0 (fun i => z (K + i)) _ (nil_row _ _) (by omega)).mono ?_
          rintro e' w3 ⟨v, rfl, hv, hc⟩
          have HF := Lib.hid (bytes_good HE.out HK.out.1 HK.out.2.1 HKK.out HH.out HC1.out (x' := .slice none 0 0) (by rw [← HMM.out]; exact nil_row _ _) nn_none Off.zero ho1 hv hc (fun c hc => absurd hc (Nat.not_lt_zero c)) (by omega))
          clear hv hc
          go_wp2
          go_ret2
          exact HF.out
        | some ad =>
          obtain ⟨b, o, rfl⟩ := hx1.nn.2 _ _ _ rfl
          have HBY : Hid (Bytes V (fun i => z (K + i))) := fun c hc => hx1.row.bytes c (by omega)
          have hoB' : ∀ p m C', Off (fun i => i = B) (.slice (some ⟨b, p, none⟩) m C') ∨ M = 0 := fun p m C' => by
            rcases Nat.eq_zero_or_pos M with q | q
            · exact Or.inr q
            · exact Or.inl (hoB.part q)
          by_cases hD : D = V
          · subst hD
            obtain rfl : M = D := by omega
            have HT := Lib.hid (show RowV w1 (.slice (some ⟨b, o, none⟩) 0 0) (n - K - M) (fun i => z (K + (M + i))) by rw [← HMM.out, Nat.sub_self]; exact none_row _ _ _)
            have HO1 : Hid (Off (fun i => i = B) (.slice (some ⟨b, o, none⟩) 0 0)) := Off.zero
            have HO2 : Hid (∀ S, Off S (.slice A n C) → Off S (.slice (some ⟨b, o, none⟩) 0 0)) := fun S _ => Off.zero
            have HCL := Lib.hid (clone_any (some ⟨b, o, none⟩) M M (fun i => z (K + i)) _ (hx1.row.off (set_ch w1 B (.slice (some ⟨b, o, none⟩) 0 0)) hoB) (by omega))
            clear hx1 hr1 hl1 hch1 hoB hoB' ho1
            go_wp2_with fail
            refine (left_any w.heap.size M _ _ _ HX.out).mono ?_
            rintro e' w' ⟨rfl, rfl⟩
            go_wp2_with fail
            refine HCL.out.mono ?_
            rintro e' w3 ⟨v, rfl, hv, hc⟩
            have HF := Lib.hid (bytes_good HE.out HK.out.1 HK.out.2.1 HKK.out HH.out HC1.out HT.out (nn_some _ _ _ _) HO1.out HO2.out hv hc HBY.out hV4)
            clear hv hc
            go_wp2
            go_ret2
            exact HF.out
          · have HT := Lib.hid (show RowV w1 (.slice (some ⟨b, o + V, none⟩) (M - V) (D - V)) (n - K - V) (fun i => z (K + (V + i))) by rw [← HMM.out]; exact row_tail hx1.row hVM)
            have HO1 : Hid (Off (fun i => i = B) (.slice (some ⟨b, o + V, none⟩) (M - V) (D - V))) := by
              rcases Nat.eq_zero_or_pos M with q | q
              · rw [q, Nat.zero_sub]; exact Off.zero
              · exact hoB.part q
            have HO2 : Hid (∀ S, Off S (.slice A n C) → Off S (.slice (some ⟨b, o + V, none⟩) (M - V) (D - V))) := fun S hS => by
              rcases Nat.eq_zero_or_pos M with q | q
              · rw [q, Nat.zero_sub]; exact Off.zero
              · exact (ho1 S hS).part q
            have HCL := Lib.hid (clone_any (some ⟨b, o, none⟩) V D (fun i => z (K + i)) _ (row_front (hx1.row.off (set_ch w1 B (.slice (some ⟨b, o + V, none⟩) (M - V) (D - V))) hoB) hVM) (by omega))
            have e5 : ((M - V : Nat) : Int) = (M : Int) - (V : Int) := by omega
            have e6 : ((D - V : Nat) : Int) = (D : Int) - (V : Int) := by omega
            have t4 : (D : Int) - (V : Int) ≠ 0 := by omega
            clear hx1 hr1 hl1 hch1 hoB hoB' ho1
            go_wp2_with fail
            refine (left_any w.heap.size M _ _ _ HX.out).mono ?_
            rintro e' w' ⟨rfl, rfl⟩
            go_wp2_with fail
            refine HCL.out.mono ?_
            rintro e' w3 ⟨v, rfl, hv, hc⟩
            have HF := Lib.hid (bytes_good HE.out HK.out.1 HK.out.2.1 HKK.out HH.out HC1.out HT.out (nn_some _ _ _ _) HO1.out HO2.out hv hc HBY.out hV4)
            clear hv hc
            go_wp2
            go_ret2
            exact HF.out
      · have t3 : decide (n - resK T63 z k e < resV T63 z k e) = true := by simp; omega
        have HF := Lib.hid (fun w' : World => bytes_bad (w' := w') (bE_short hE h4 h5) (by decide) h)
        clear h hl hr h4 h5 hE
        go_enter Try.func21, Try.ntmps21
        go_wp2_with fail
        refine (rest_any B A n C _ HC.out).mono ?_
        rintro e' w' ⟨rfl, rfl⟩
        go_wp2_with fail
        refine HN.out.mono ?_
        rintro e' w1 ⟨rfl, x1, hx1, ho1, hch1⟩
        have HC1 := Lib.hid (HCA.out.newer hch1 (Nat.le_refl _))
        have HX := Lib.hid hx1
        clear hx1 ho1 hch1
        go_wp2_with fail
        refine (left_any w.heap.size _ _ _ _ HX.out).mono ?_
        rintro e' w' ⟨rfl, rfl⟩
        go_wp2
        go_ret2
        exact HF.out _ HC1.out
    · have t2 : decide ((4096 : Int) < (resV T63 z k e : Int)) = true := by simp; omega
      have HF := Lib.hid (fun w' : World => bytes_bad (w' := w') (bE_long hE h4) (by decide) h)
      clear h hl hr h4 hE
      go_enter Try.func21, Try.ntmps21
      go_wp2_with fail
      refine (rest_any B A n C _ HC.out).mono ?_
      rintro e' w' ⟨rfl, rfl⟩
      go_wp2_with fail
      refine HN.out.mono ?_
      rintro e' w1 ⟨rfl, x1, hx1, ho1, hch1⟩
      have HC1 := Lib.hid (HCA.out.newer hch1 (Nat.le_refl _))
      clear hx1 ho1 hch1
      go_wp2
      go_ret2
      exact HF.out _ HC1.out
  · have t1 : ((resE T63 z k e : Int) != 0) = true := by simpa using hE
    have HF := Lib.hid (fun w' : World => bytes_bad (w' := w') (bE_wrong hE) hE h)
    clear h hl hr hv
    go_enter Try.func21, Try.ntmps21
    go_wp2_with fail
    refine (rest_any B A n C _ HC.out).mono ?_
    rintro e' w' ⟨rfl, rfl⟩
    go_wp2_with fail
    refine HN.out.mono ?_
    rintro e' w1 ⟨rfl, x1, hx1, ho1, hch1⟩
    have HC1 := Lib.hid (HCA.out.newer hch1 (Nat.le_refl _))
    clear hx1 ho1 hch1
    go_wp2
    go_ret2
    exact HF.out _ HC1.out
#print axioms ibytes_any
end Go.Proofs.Ytfnmdcfnojgofaa
