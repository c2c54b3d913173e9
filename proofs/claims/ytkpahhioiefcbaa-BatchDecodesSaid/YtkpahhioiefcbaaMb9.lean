/-
  The document's GetBytes (quartermasterref05), and (*code.In).Bytes of a nil In, walked. A number, and bytes, that are got, by the document, of any row, also of none.
-/
import Derived.Test.YtkpahhioiefcbaaMb8
import Derived.Deep.RegionLaw
import Derived.Test.YtkpahhioiefcbaaMb2
namespace Go.Proofs.Ytkpahhioiefcbaa
open Go.RowKit Go.Shelf Cod
set_option linter.unusedVariables false
set_option maxRecDepth 100000

set_option maxHeartbeats 400000 in
theorem ibytes_nil (w : World) : Calls Try.prog 37 #[.pointer none] w fun e w' => e = .returned (.tuple #[.slice none 0 0, .int .i64 6]) ∧ Ch (fun _ => False) w w' := by
  have hI : InIs (w.alloc (.cells #[.slice none 0 0] 73)) w.heap.size (.slice none 0 0) 0 (fun _ => 0) := ⟨Boxed.new w _ _, nil_row _ _, nn_none⟩
  have HN := Lib.hid (inum_any w.heap.size 0 (.slice none 0 0) (fun _ => 0) 0 6 _ hI (rd_short (by omega) (fun i hi => absurd hi (Nat.not_lt_zero i))))
  have HCA := Lib.hid (show Ch (fun _ => False) w (w.alloc (.cells #[.slice none 0 0] 73)) from (Ch.refl _ w).alloc _ _)
  have e1 : (resE T63 (fun _ => 0) 0 6 : Int) = 6 := rfl
  have e2 : (resV T63 (fun _ => 0) 0 6 : Int) = 0 := rfl
  rw [e1, e2] at HN
  clear hI e1 e2
  go_enter Try.func37, Try.ntmps37
  go_wp2_with fail
  refine (rest_nil _).mono ?_
  rintro e' w' ⟨rfl, rfl⟩
  go_wp2_with fail
  refine HN.out.mono ?_
  rintro e' w1 ⟨rfl, x1, _, _, hch1⟩
  have HC1 := Lib.hid (HCA.out.newer hch1 (Nat.le_refl _))
  clear hch1
  go_wp2
  go_ret2
  exact ⟨rfl, HC1.out⟩
#print axioms ibytes_nil

def GBPost (n : Nat) (x : Value) (z : Nat → Nat) (k e : Nat) (w : World) (en : Ending) (w' : World) : Prop :=
  ∃ v y, en = .returned (.tuple #[v, y, .int .i64 (bE n z k e : Int)]) ∧ RowN w w' v (bL n z k e) (fun i => z (resK T63 z k e + i)) ∧ RowV w' y (n - bK n z k e) (fun i => z (bK n z k e + i)) ∧ NN y ∧ (∀ S, Off S x → Off S y) ∧ Ch (fun _ => False) w w'
theorem gb_bad {n k e E : Nat} {x : Value} {z : Nat → Nat} {w w' : World} (hE : bE n z k e = E) (h0 : ¬ E = 0) (h : RowV w x n z) (hn : NN x) (hch : Ch (fun _ => False) w w') :
    GBPost n x z k e w (.returned (.tuple #[.slice none 0 0, x, .int .i64 (E : Int)])) w' := by
  obtain ⟨h1, h2⟩ := b_bad (hE ▸ h0)
  refine ⟨.slice none 0 0, x, by rw [hE], ⟨none, 0, by rw [h1], by rw [h1]; exact Nat.le_refl _, Or.inl h1⟩, ?_, hn, fun S h => h, hch⟩
  rw [h2]
  exact (h.gr hch).congr (fun i _ => by rw [Nat.zero_add])
theorem gb_good {n k e K V : Nat} {x y v : Value} {z : Nat → Nat} {w w1 w3 : World} (hE : bE n z k e = 0) (hL : bL n z k e = V) (hK : bK n z k e = K + V) (hKK : K = resK T63 z k e) (hch : Ch (fun _ => False) w w3)
    (hx : RowV w1 y (n - K - V) (fun i => z (K + (V + i)))) (hw : Ch (fun _ => False) w1 w3) (hnn : NN y) (hoff : ∀ S, Off S x → Off S y) (hv : RowN w w3 v V (fun i => z (K + i))) :
    GBPost n x z k e w (.returned (.tuple #[v, y, .int .i64 0])) w3 := by
  refine ⟨v, y, by rw [hE]; rfl, by rw [hL, ← hKK]; exact hv, ?_, hnn, hoff, hch⟩
  rw [hK, ← Nat.sub_sub]
  exact (hx.gr hw).congr (fun i _ => by rw [Nat.add_assoc])
set_option maxHeartbeats 1000000 in
set_option maxRecDepth 100000 in
theorem rgetbytes_any (A : Option Addr) (n C : Nat) (z : Nat → Nat) (k e : Nat) (w : World) (h : RowV w (.slice A n C) n z) (hnn : NN (.slice A n C)) (hr : Rd n z k e) (hn : n ≤ 1048576) :
    Calls Try.prog 26 #[.slice A n C] w (GBPost n (.slice A n C) z k e w) := by
  have HN := Lib.hid (rgetnum_any A n C z k e w h hnn hr)
  have hv : (resV T63 z k e : Int) ≤ 9223372036854775807 := by have := resV_le T63 z k e; unfold T63 at this; unfold T63; omega
  by_cases hE : resE T63 z k e = 0
  · have t1 : ((resE T63 z k e : Int) != 0) = false := by simpa using hE
    by_cases h4 : resV T63 z k e ≤ 4096
    · have t2 : decide ((4096 : Int) < (resV T63 z k e : Int)) = false := by simp; omega
      by_cases h5 : resV T63 z k e ≤ n - resK T63 z k e
      · have HE := Lib.hid (bE_fine hE h4 h5)
        have HK := Lib.hid (b_ok (bE_fine hE h4 h5))
        obtain ⟨V, hV⟩ : ∃ V, V = resV T63 z k e := ⟨_, rfl⟩
        obtain ⟨K, hK⟩ : ∃ K, K = resK T63 z k e := ⟨_, rfl⟩
        obtain ⟨M, hM⟩ : ∃ M, M = n - K := ⟨_, rfl⟩
        rw [← hV] at HN HK t2 h4 h5 hv
        rw [← hK] at HN HK h5
        rw [← hM] at HK h5
        rw [hE] at HN
        have t3 : decide (M < V) = false := by simp; omega
        have HKK := Lib.hid hK
        have HMM := Lib.hid hM
        have hV4 := h4
        have hVM := h5
        clear hV hK hM t1 h hnn
        clear hr hE h4 h5
        go_enter Try.func26, Try.ntmps26
        go_wp2_with fail
        refine HN.out.mono ?_
        rintro e' w' ⟨y1, d1, rfl, rfl, hy1, hn1, ho1⟩
        rw [← HMM.out] at hy1
        obtain ⟨A1, D, rfl, hl1, hr1⟩ := id hy1
        obtain ⟨W1, hW1⟩ : ∃ W1, W1 = w.drewN d1 := ⟨_, rfl⟩
        have HCW := Lib.hid (show Ch (fun _ => False) w W1 by rw [hW1]; exact (Ch.refl _ w).drewN d1)
        have hy2 : RowV W1 (.slice A1 M D) M (fun i => z (K + i)) := hy1.gr HCW.out
        rw [← hW1]
        have hl2 := hl1.1
        have hl3 := hl1.2
        clear hW1 hy1 hl1
        cases A1 with
        | none =>
          have hM : M = 0 := by
            rcases Nat.eq_zero_or_pos M with q | q
            · exact q
            · obtain ⟨_, _, q, _⟩ := hr1 q; cases q
          obtain rfl := hn1.1 _ _ rfl
          subst hM
          obtain rfl : V = 0 := by omega
          have HR := Lib.hid (append_nil_nil W1.drew /-t-/22 0)
          have HF := Lib.hid (fun d : Nat => gb_good (x := .slice A n C) (y := .slice none 0 0) (v := .slice none 0 0) (w1 := W1) (w3 := (W1.drew).drewN d) HE.out HK.out.1 HK.out.2.1 HKK.out ((HCW.out.drew).drewN d) (by rw [← HMM.out]; exact nil_row _ _) (((Ch.refl _ W1).drew).drewN d) nn_none ho1 ⟨none, 0, rfl, Nat.le_refl _, Or.inl rfl⟩)
          clear hr1 hn1 ho1 hy2
          go_wp2
          refine wp_region_held (S := fun _ => True) (by kernel_rfl) ?_
          change wpAnyH _ _ _ _ _ _ _ _ (World.drew _)
          refine wpAnyH_take (i := 0) (oi := { dst := some 26, op := .move (.tmp 6), type := _, pos := _, after := _, guard := none }) (v := .slice none 0 0) rfl (by kernel_rfl) (by kernel_rfl) (by kernel_rfl) (fun _ _ _ h => h) (Or.inl ⟨by rfl, fun w' hS => ?_⟩) trivial ?_
          · clear hS; go_simp
          refine wpAnyH_take (i := 1) (oi := { dst := some 27, op := .move (.tmp 5), type := _, pos := _, after := _, guard := none }) (v := .int .i64 (0 : Int)) rfl (by kernel_rfl) (by kernel_rfl) (by kernel_rfl) (fun _ _ _ h => h) (Or.inl ⟨by rfl, fun w' hS => ?_⟩) trivial ?_
          · clear hS; go_simp
          refine wpAnyH_take (i := 2) (oi := { dst := some 28, op := .slice /-t-/22 (.tmp 26) none (some (.tmp 27)) none, type := _, pos := _, after := _, guard := none }) (v := .slice none 0 0) rfl (by kernel_rfl) (by kernel_rfl) (by kernel_rfl) (fun _ _ _ h => h) (Or.inl ⟨by rfl, fun w' hS => ?_⟩) trivial ?_
          · clear hS; go_simp
          refine wpAnyH_take (i := 4) (oi := { dst := some 30, op := .move (.tmp 6), type := _, pos := _, after := _, guard := none }) (v := .slice none 0 0) rfl (by kernel_rfl) (by kernel_rfl) (by kernel_rfl) (fun _ _ _ h => h) (Or.inl ⟨by rfl, fun w' hS => ?_⟩) trivial ?_
          · clear hS; go_simp
          refine wpAnyH_take (i := 5) (oi := { dst := some 31, op := .move (.tmp 5), type := _, pos := _, after := _, guard := none }) (v := .int .i64 (0 : Int)) rfl (by kernel_rfl) (by kernel_rfl) (by kernel_rfl) (fun _ _ _ h => h) (Or.inl ⟨by rfl, fun w' hS => ?_⟩) trivial ?_
          · clear hS; go_simp
          refine wpAnyH_take (i := 6) (oi := { dst := some 32, op := .slice /-t-/22 (.tmp 30) (some (.tmp 31)) none none, type := _, pos := _, after := _, guard := none }) (v := .slice none 0 0) rfl (by kernel_rfl) (by kernel_rfl) (by kernel_rfl) (fun _ _ _ h => h) (Or.inl ⟨by rfl, fun w' hS => ?_⟩) trivial ?_
          · clear hS; go_simp
          simp only [Act.put, List.setIfInBounds_toArray, List.set_cons_zero, List.set_cons_succ]
          refine wpAnyH_ready (rs := [3]) (by kernel_rfl) (by simp) ?_
          refine AllReadyH.cons rfl (fun K' hK => ?_) AllReadyH.nil
          refine step_bytes_of rfl (.const (.slice none 0 0)) (.tmp 28) rfl rfl _ _ _ _ rfl rfl HR.out ?_
          refine hK.out _ _ trivial (fun _ => ?_)
          clear hK K'
          refine wpAnyH_ready (rs := [7]) (by kernel_rfl) (by simp) ?_
          refine AllReadyH.cons rfl (fun K' hK => ?_) AllReadyH.nil
          go_simp
          refine hK.out _ _ trivial (fun _ => ?_)
          clear hK K'
          refine wpAnyH_ready (rs := [8]) (by kernel_rfl) (by simp) ?_
          refine AllReadyH.cons rfl (fun K' hK => ?_) AllReadyH.nil
          go_simp
          refine hK.out _ _ trivial (fun _ => ?_)
          clear hK K'
          refine wpAnyH_ready (rs := [9]) (by kernel_rfl) (by simp) ?_
          refine AllReadyH.cons rfl (fun K' hK => ?_) AllReadyH.nil
          go_simp
          refine hK.out _ _ trivial (fun _ => ?_)
          clear hK K'
          refine wpAnyH_done (by kernel_rfl) ?_ _
          go_wp2
          refine bodyPost_ret (v := .tuple #[.slice none 0 0, .slice none 0 0, .int .i64 0]) (by simp [results, Try.results26, go_sem]) rfl ?_
          exact HF.out 0
        | some ad =>
          obtain ⟨b, o, rfl⟩ := hn1.2 _ _ _ rfl
          obtain ⟨v, w3, hr3, ho3, hch3⟩ := app_copy (row_front (hy2.gr (Ch.refl _ W1).drew) hVM) (by omega)
          have HR := Lib.hid hr3
          have HV := Lib.hid (RowN.own (w := w) ho3 (by omega) (fun c hc => hy2.bytes c (by omega)) HCW.out.drew.size)
          have HC3 := Lib.hid ((Ch.refl (fun _ => False) W1).drew.trans hch3)
          have e5 : ((M - V : Nat) : Int) = (M : Int) - (V : Int) := by omega
          have e6 : ((D - V : Nat) : Int) = (D : Int) - (V : Int) := by omega
          by_cases hD : D = V
          · subst hD
            obtain rfl : M = D := by omega
            have HF := Lib.hid (gb_good (x := .slice A n C) (y := .slice (some ⟨b, o, none⟩) 0 0) HE.out HK.out.1 HK.out.2.1 HKK.out (HCW.out.trans HC3.out) (show RowV W1 _ _ _ by rw [← HMM.out, Nat.sub_self]; exact none_row _ _ _) HC3.out (nn_some _ _ _ _) (fun S _ => Off.zero) HV.out)
            clear hr1 hn1 ho1 hy2 hr3 ho3 hch3
            go_wp2
            refine wp_region_held (S := fun _ => True) (by kernel_rfl) ?_
            change wpAnyH _ _ _ _ _ _ _ _ (World.drew _)
            refine wpAnyH_take (i := 0) (oi := { dst := some 26, op := .move (.tmp 6), type := _, pos := _, after := _, guard := none }) (v := .slice (some ⟨b, o, none⟩) M M) rfl (by kernel_rfl) (by kernel_rfl) (by kernel_rfl) (fun _ _ _ h => h) (Or.inl ⟨by rfl, fun w' hS => ?_⟩) trivial ?_
            · clear hS; go_simp
            refine wpAnyH_take (i := 1) (oi := { dst := some 27, op := .move (.tmp 5), type := _, pos := _, after := _, guard := none }) (v := .int .i64 (M : Int)) rfl (by kernel_rfl) (by kernel_rfl) (by kernel_rfl) (fun _ _ _ h => h) (Or.inl ⟨by rfl, fun w' hS => ?_⟩) trivial ?_
            · clear hS; go_simp
            refine wpAnyH_take (i := 2) (oi := { dst := some 28, op := .slice /-t-/22 (.tmp 26) none (some (.tmp 27)) none, type := _, pos := _, after := _, guard := none }) (v := .slice (some ⟨b, o, none⟩) M M) rfl (by kernel_rfl) (by kernel_rfl) (by kernel_rfl) (fun _ _ _ h => h) (Or.inl ⟨by rfl, fun w' hS => ?_⟩) trivial ?_
            · clear hS; go_simp
            refine wpAnyH_take (i := 4) (oi := { dst := some 30, op := .move (.tmp 6), type := _, pos := _, after := _, guard := none }) (v := .slice (some ⟨b, o, none⟩) M M) rfl (by kernel_rfl) (by kernel_rfl) (by kernel_rfl) (fun _ _ _ h => h) (Or.inl ⟨by rfl, fun w' hS => ?_⟩) trivial ?_
            · clear hS; go_simp
            refine wpAnyH_take (i := 5) (oi := { dst := some 31, op := .move (.tmp 5), type := _, pos := _, after := _, guard := none }) (v := .int .i64 (M : Int)) rfl (by kernel_rfl) (by kernel_rfl) (by kernel_rfl) (fun _ _ _ h => h) (Or.inl ⟨by rfl, fun w' hS => ?_⟩) trivial ?_
            · clear hS; go_simp
            refine wpAnyH_take (i := 6) (oi := { dst := some 32, op := .slice /-t-/22 (.tmp 30) (some (.tmp 31)) none none, type := _, pos := _, after := _, guard := none }) (v := .slice (some ⟨b, o, none⟩) 0 0) rfl (by kernel_rfl) (by kernel_rfl) (by kernel_rfl) (fun _ _ _ h => h) (Or.inl ⟨by rfl, fun w' hS => ?_⟩) trivial ?_
            · clear hS; go_simp
            simp only [Act.put, List.setIfInBounds_toArray, List.set_cons_zero, List.set_cons_succ]
            refine wpAnyH_ready (rs := [3]) (by kernel_rfl) (by simp) ?_
            refine AllReadyH.cons rfl (fun K' hK => ?_) AllReadyH.nil
            refine step_bytes_of rfl (.const (.slice none 0 0)) (.tmp 28) rfl rfl _ _ _ _ rfl rfl HR.out ?_
            refine hK.out _ _ trivial (fun _ => ?_)
            clear hK K'
            refine wpAnyH_ready (rs := [7]) (by kernel_rfl) (by simp) ?_
            refine AllReadyH.cons rfl (fun K' hK => ?_) AllReadyH.nil
            go_simp
            refine hK.out _ _ trivial (fun _ => ?_)
            clear hK K'
            refine wpAnyH_ready (rs := [8]) (by kernel_rfl) (by simp) ?_
            refine AllReadyH.cons rfl (fun K' hK => ?_) AllReadyH.nil
            go_simp
            refine hK.out _ _ trivial (fun _ => ?_)
            clear hK K'
            refine wpAnyH_ready (rs := [9]) (by kernel_rfl) (by simp) ?_
            refine AllReadyH.cons rfl (fun K' hK => ?_) AllReadyH.nil
            go_simp
            refine hK.out _ _ trivial (fun _ => ?_)
            clear hK K'
            refine wpAnyH_done (by kernel_rfl) ?_ _
            go_wp2
            refine bodyPost_ret (v := .tuple #[v, .slice (some ⟨b, o, none⟩) 0 0, .int .i64 0]) (by simp [results, Try.results26, go_sem]) rfl ?_
            exact HF.out
          · have t4 : (D : Int) - (V : Int) ≠ 0 := by omega
            have hVD : V ≤ D := by omega
            have HF := Lib.hid (gb_good (x := .slice A n C) (y := .slice (some ⟨b, o + V, none⟩) (M - V) (D - V)) HE.out HK.out.1 HK.out.2.1 HKK.out (HCW.out.trans HC3.out) (show RowV W1 _ _ _ by rw [← HMM.out]; exact row_tail hy2 hVM) HC3.out (nn_some _ _ _ _) (fun S hS => by
              rcases Nat.eq_zero_or_pos M with q | q
              · rw [q, Nat.zero_sub]; exact Off.zero
              · exact (ho1 S hS).part q) HV.out)
            clear hr1 hn1 ho1 hy2 hr3 ho3 hch3
            go_wp2
            refine wp_region_held (S := fun _ => True) (by kernel_rfl) ?_
            change wpAnyH _ _ _ _ _ _ _ _ (World.drew _)
            refine wpAnyH_take (i := 0) (oi := { dst := some 26, op := .move (.tmp 6), type := _, pos := _, after := _, guard := none }) (v := .slice (some ⟨b, o, none⟩) M D) rfl (by kernel_rfl) (by kernel_rfl) (by kernel_rfl) (fun _ _ _ h => h) (Or.inl ⟨by rfl, fun w' hS => ?_⟩) trivial ?_
            · clear hS; go_simp
            refine wpAnyH_take (i := 1) (oi := { dst := some 27, op := .move (.tmp 5), type := _, pos := _, after := _, guard := none }) (v := .int .i64 (V : Int)) rfl (by kernel_rfl) (by kernel_rfl) (by kernel_rfl) (fun _ _ _ h => h) (Or.inl ⟨by rfl, fun w' hS => ?_⟩) trivial ?_
            · clear hS; go_simp
            refine wpAnyH_take (i := 2) (oi := { dst := some 28, op := .slice /-t-/22 (.tmp 26) none (some (.tmp 27)) none, type := _, pos := _, after := _, guard := none }) (v := .slice (some ⟨b, o, none⟩) V D) rfl (by kernel_rfl) (by kernel_rfl) (by kernel_rfl) (fun _ _ _ h => h) (Or.inl ⟨by rfl, fun w' hS => ?_⟩) trivial ?_
            · clear hS; go_simp
            refine wpAnyH_take (i := 4) (oi := { dst := some 30, op := .move (.tmp 6), type := _, pos := _, after := _, guard := none }) (v := .slice (some ⟨b, o, none⟩) M D) rfl (by kernel_rfl) (by kernel_rfl) (by kernel_rfl) (fun _ _ _ h => h) (Or.inl ⟨by rfl, fun w' hS => ?_⟩) trivial ?_
            · clear hS; go_simp
            refine wpAnyH_take (i := 5) (oi := { dst := some 31, op := .move (.tmp 5), type := _, pos := _, after := _, guard := none }) (v := .int .i64 (V : Int)) rfl (by kernel_rfl) (by kernel_rfl) (by kernel_rfl) (fun _ _ _ h => h) (Or.inl ⟨by rfl, fun w' hS => ?_⟩) trivial ?_
            · clear hS; go_simp
            refine wpAnyH_take (i := 6) (oi := { dst := some 32, op := .slice /-t-/22 (.tmp 30) (some (.tmp 31)) none none, type := _, pos := _, after := _, guard := none }) (v := .slice (some ⟨b, o + V, none⟩) (M - V) (D - V)) rfl (by kernel_rfl) (by kernel_rfl) (by kernel_rfl) (fun _ _ _ h => h) (Or.inl ⟨by rfl, fun w' hS => ?_⟩) trivial ?_
            · clear hS; go_simp
            simp only [Act.put, List.setIfInBounds_toArray, List.set_cons_zero, List.set_cons_succ]
            refine wpAnyH_ready (rs := [3]) (by kernel_rfl) (by simp) ?_
            refine AllReadyH.cons rfl (fun K' hK => ?_) AllReadyH.nil
            refine step_bytes_of rfl (.const (.slice none 0 0)) (.tmp 28) rfl rfl _ _ _ _ rfl rfl HR.out ?_
            refine hK.out _ _ trivial (fun _ => ?_)
            clear hK K'
            refine wpAnyH_ready (rs := [7]) (by kernel_rfl) (by simp) ?_
            refine AllReadyH.cons rfl (fun K' hK => ?_) AllReadyH.nil
            go_simp
            refine hK.out _ _ trivial (fun _ => ?_)
            clear hK K'
            refine wpAnyH_ready (rs := [8]) (by kernel_rfl) (by simp) ?_
            refine AllReadyH.cons rfl (fun K' hK => ?_) AllReadyH.nil
            go_simp
            refine hK.out _ _ trivial (fun _ => ?_)
            clear hK K'
            refine wpAnyH_ready (rs := [9]) (by kernel_rfl) (by simp) ?_
            refine AllReadyH.cons rfl (fun K' hK => ?_) AllReadyH.nil
            go_simp
            refine hK.out _ _ trivial (fun _ => ?_)
            clear hK K'
            refine wpAnyH_done (by kernel_rfl) ?_ _
            go_wp2
            refine bodyPost_ret (v := .tuple #[v, .slice (some ⟨b, o + V, none⟩) (M - V) (D - V), .int .i64 0]) (by simp [results, Try.results26, go_sem]) rfl ?_
            exact HF.out
      · have t3 : decide (n - resK T63 z k e < resV T63 z k e) = true := by simp; omega
        have HF := Lib.hid (fun w' : World => gb_bad (w' := w') (bE_short hE h4 h5) (by decide) h hnn)
        clear h hnn hr h4 h5 hE
        go_enter Try.func26, Try.ntmps26
        go_wp2_with fail
        refine HN.out.mono ?_
        rintro e' w' ⟨y1, d1, rfl, rfl, hy1, hn1, ho1⟩
        obtain ⟨A1, D, rfl, hl1, _⟩ := id hy1
        have hl2 := hl1.1
        clear hy1 hl1 hn1 ho1
        go_wp2
        refine bodyPost_ret (v := .tuple #[.slice none 0 0, .slice A n C, .int .i64 6]) (by simp [results, Try.results26, go_sem]) rfl ?_
        exact HF.out _ ((Ch.refl _ w).drewN d1)
    · have t2 : decide ((4096 : Int) < (resV T63 z k e : Int)) = true := by simp; omega
      have HF := Lib.hid (fun w' : World => gb_bad (w' := w') (bE_long hE h4) (by decide) h hnn)
      clear h hnn hr h4 hE
      go_enter Try.func26, Try.ntmps26
      go_wp2_with fail
      refine HN.out.mono ?_
      rintro e' w' ⟨y1, d1, rfl, rfl, hy1, hn1, ho1⟩
      clear hy1 hn1 ho1
      go_wp2
      refine bodyPost_ret (v := .tuple #[.slice none 0 0, .slice A n C, .int .i64 2]) (by simp [results, Try.results26, go_sem]) rfl ?_
      exact HF.out _ ((Ch.refl _ w).drewN d1)
  · have t1 : ((resE T63 z k e : Int) != 0) = true := by simpa using hE
    have HF := Lib.hid (fun w' : World => gb_bad (w' := w') (bE_wrong hE) hE h hnn)
    clear h hnn hr hE
    go_enter Try.func26, Try.ntmps26
    go_wp2_with fail
    refine HN.out.mono ?_
    rintro e' w' ⟨y1, d1, rfl, rfl, hy1, hn1, ho1⟩
    clear hy1 hn1 ho1
    go_wp2
    refine bodyPost_ret (v := .tuple #[.slice none 0 0, .slice A n C, .int .i64 (resE T63 z k e : Int)]) (by simp [results, Try.results26, go_sem]) rfl ?_
    exact HF.out _ ((Ch.refl _ w).drewN d1)
#print axioms rgetbytes_any
end Go.Proofs.Ytkpahhioiefcbaa
namespace Go.Proofs.Ytkpahhioiefcbaa
open Go.RowKit
set_option linter.unusedVariables false
set_option maxRecDepth 100000

/-! ### a number that is got, of any row -/
def GetP (x : Value) (n : Nat) (z : Nat → Nat) (k e : Nat) (w : World) (en : Ending) (w' : World) : Prop :=
  ∃ A C d, en = .returned (.tuple #[.int .i64 (Cod.resV T63 z k e : Int), .slice A (n - Cod.resK T63 z k e) C, .int .i64 (Cod.resE T63 z k e : Int)]) ∧ w' = w.drewN d ∧ RowV w (.slice A (n - Cod.resK T63 z k e) C) (n - Cod.resK T63 z k e) (fun i => z (Cod.resK T63 z k e + i)) ∧ ∀ S, Off S x → Off S (.slice A (n - Cod.resK T63 z k e) C)
set_option maxHeartbeats 800000 in
theorem rget_any (A : Option Addr) (n C : Nat) (z : Nat → Nat) (k e : Nat) (w : World) (h : RowV w (.slice A n C) n z) (hr : Cod.Rd n z k e) : Calls Try.prog 25 #[.slice A n C] w (GetP (.slice A n C) n z k e w) := by
  by_cases hn : n = 0
  · subst hn
    obtain ⟨rfl, rfl⟩ := Cod.rd_one hr (Cod.rd_short (n := 0) (z := z) (by omega) (fun i hi => absurd hi (Nat.not_lt_zero i)))
    have HV := Lib.hid h
    have HD := Lib.hid hr
    clear h hr
    go_enter Try.func25, Try.ntmps25
    go_wp2_with fail
    refine (run_any A 0 C z _ _ _ HV.out HD.out).mono ?_
    rintro e' w' ⟨rfl, rfl⟩
    go_wp2
    refine bodyPost_ret (v := .tuple #[.int .i64 0, .slice A 0 C, .int .i64 6]) (by simp [results, Try.results25, go_sem]) rfl ?_
    have e : Cod.resK T63 z 0 6 = 0 := rfl
    refine ⟨A, C, 0, rfl, rfl, ?_, fun S _ => ?_⟩
    · rw [e]
      simpa using HV.out
    · rw [e]
      exact Off.zero
  · obtain ⟨b, o, rfl, _⟩ := h.at (by omega)
    refine (rgetnum_any _ n C z k e w h (nn_some b o n C) hr).mono ?_
    rintro en w' ⟨y, d, rfl, rfl, h2, _, h3⟩
    obtain ⟨A', C', rfl, _⟩ := id h2
    exact ⟨A', C', d, rfl, rfl, h2, h3⟩
#print axioms rget_any

theorem row_via {w4 w5 w6 : World} {x : Value} {n : Nat} {z : Nat → Nat} (h : RowV w5 x n z) (ho : Off (fun i => w4.heap.size ≤ i) x) (h5 : Ch (fun _ => False) w4 w5) (h6 : Ch (fun _ => False) w4 w6) : RowV w6 x n z := by
  obtain ⟨A, C, rfl, h2, h3⟩ := h
  refine ⟨A, C, rfl, h2, fun hn => ?_⟩
  obtain ⟨b, o, rfl, hc⟩ := h3 hn
  obtain ⟨m, rfl⟩ : ∃ m, n = m + 1 := ⟨n - 1, by omega⟩
  have hb : b < w4.heap.size := by
    have := ho b o m C rfl
    omega
  have e : w6.heap[b]? = w5.heap[b]? := (h6.block b hb (fun f => f)).trans (h5.block b hb (fun f => f)).symm
  refine ⟨b, o, rfl, fun c hcn => ⟨?_, (hc c hcn).2⟩⟩
  have := (hc c hcn).1
  unfold World.cell? at this ⊢
  rw [e]
  exact this

/-! ### bytes that are got, of any row -/
def GbP (n : Nat) (z : Nat → Nat) (k e : Nat) (w : World) (en : Ending) (w' : World) : Prop :=
  ∃ v y, en = .returned (.tuple #[v, y, .int .i64 (bE n z k e : Int)]) ∧ RowN w w' v (bL n z k e) (fun i => z (Cod.resK T63 z k e + i)) ∧ Ch (fun _ => False) w w'
set_option maxHeartbeats 800000 in
theorem rgb_any (A : Option Addr) (n C : Nat) (z : Nat → Nat) (k e : Nat) (w : World) (h : RowV w (.slice A n C) n z) (hr : Cod.Rd n z k e) (hn : n ≤ 1048576) : Calls Try.prog 26 #[.slice A n C] w (GbP n z k e w) := by
  by_cases h0 : n = 0
  · subst h0
    obtain ⟨rfl, rfl⟩ := Cod.rd_one hr (Cod.rd_short (n := 0) (z := z) (by omega) (fun i hi => absurd hi (Nat.not_lt_zero i)))
    have HG := Lib.hid (rget_any A 0 C z _ _ w h hr)
    have e1 : bE 0 z 0 6 = 6 := rfl
    have e2 : bL 0 z 0 6 = 0 := rfl
    have e3 : Cod.resE T63 z 0 6 = 6 := rfl
    have HE := Lib.hid (And.intro e1 e2)
    unfold GetP at HG
    rw [e3] at HG
    clear h hr e1 e2 e3
    go_enter Try.func26, Try.ntmps26
    go_wp2_with fail
    refine HG.out.mono ?_
    rintro e' w' ⟨A', C', d, rfl, rfl, _, _⟩
    go_wp2
    refine bodyPost_ret (v := .tuple #[.slice none 0 0, .slice A 0 C, .int .i64 6]) (by simp [results, Try.results26, go_sem]) rfl ?_
    exact ⟨.slice none 0 0, _, by rw [HE.out.1]; rfl, ⟨none, 0, by rw [HE.out.2], by rw [HE.out.2]; exact Nat.le_refl _, Or.inl HE.out.2⟩, (Ch.refl _ w).drewN d⟩
  · obtain ⟨b, o, rfl, _⟩ := h.at (by omega)
    refine (rgetbytes_any _ n C z k e w h (nn_some b o n C) hr hn).mono ?_
    rintro en w' ⟨v, y, rfl, h1, _, _, _, h2⟩
    exact ⟨v, y, rfl, h1, h2⟩
#print axioms rgb_any
end Go.Proofs.Ytkpahhioiefcbaa
