/-
  slices.Delete of one pair, walked.
-/
import Derived.Test.YtkpahhioiefcbaaMb15
namespace Go.Proofs.Ytkpahhioiefcbaa
open Go.RowKit
set_option linter.unusedVariables false
set_option maxRecDepth 100000
set_option linter.unusedSimpArgs false

set_option maxHeartbeats 1600000 in
set_option maxRecDepth 100000 in
theorem delete_some (w0 w : World) (g cap : Nat) (A B : List Kv) (p : Kv) (R : List Value) (h : FlG kdPr w0 w g cap (A ++ p :: B) R) (hn : A.length + B.length ≤ 1000) :
    Calls Try.prog 55 #[.slice (some ⟨g, 0, none⟩) (A.length + B.length + 1) cap, .int .i64 (A.length : Int), .int .i64 ((A.length : Int) + 1)] w (InsP kdPr w0 w (.slice (some ⟨g, 0, none⟩) (A.length + B.length + 1) cap) (A ++ B)) := by
  have hle := h.le
  have hAB : (A ++ p :: B).length = A.length + B.length + 1 := by simp only [List.length_append, List.length_cons]; omega
  rw [hAB] at hle
  have hB2 := flC_len kdPr_ok B
  have hA2 := flC_len kdPr_ok A
  have k2 : kdPr.k = 2 := rfl
  rw [k2] at hA2 hB2
  have e0 : flC kdPr (A ++ p :: B) ++ R = flC kdPr A ++ ((kdPr.f p ++ flC kdPr B) ++ R) := by rw [flC_app, List.append_assoc]; rfl
  obtain ⟨Y, Z, eY, hY⟩ := list_cut ((kdPr.f p ++ flC kdPr B) ++ R) (flC kdPr B).length (by simp only [List.length_append]; omega)
  have hZ : Z.length = 2 + R.length := by
    have := congrArg List.length eY
    simp only [List.length_append, show (kdPr.f p).length = 2 from rfl] at this
    omega
  obtain ⟨Y2, Z2, eZ, hY2⟩ := list_cut Z 2 (by omega)
  have hfront : FlG kdPr w0 w.drew g cap A (Y ++ Z) := ⟨h.lo, by rw [← eY, ← e0]; exact h.blk, by omega, h.max, by rw [← eY, ← e0]; exact h.len⟩
  have hblk0 : w.drew.heap[g]? = some (.cells ((flC kdPr A ++ kdPr.f p) ++ (flC kdPr B ++ R)).toArray kdPr.T (0, 0)) := by
    have : (flC kdPr A ++ kdPr.f p) ++ (flC kdPr B ++ R) = flC kdPr (A ++ p :: B) ++ R := by rw [e0]; simp only [List.append_assoc]
    rw [this]; exact h.blk
  have hr : ∀ (ty : TypeId) (a : Addr) (c : Nat), (B = [] ∨ a = ⟨g, (A.length + 1) * 2, none⟩) → (Builtin.append_ #[kdPr.S, kdPr.S] ty #[.slice (some ⟨g, 0, none⟩) A.length cap, .slice (some a) B.length c]).run Try.prog w.drew = .ok (.slice (some ⟨g, 0, none⟩) (A.length + B.length) cap) (w.drew.setRow g (flC kdPr A ++ (flC kdPr B ++ Z)).toArray) := fun ty a c ha =>
    run_appF_room kdPr_ok hfront ty a B.length c (flC kdPr B) (by rw [hB2, k2]) hY (fun j u hj => by
      rcases ha with rfl | rfl
      · simp [flC] at hj
      · exact src_blk hblk0 (by rw [List.length_append, hA2, show (kdPr.f p).length = 2 from rfl]; omega) j u hj) (flC_one kdPr_ok B) (by omega)
  obtain ⟨W1, hW1⟩ : ∃ W1, W1 = w.drew.setRow g (flC kdPr A ++ (flC kdPr B ++ Z)).toArray := ⟨_, rfl⟩
  have hb1 : W1.heap[g]? = some (.cells (flC kdPr (A ++ B) ++ (Y2 ++ Z2)).toArray kdPr.T (0, 0)) := by
    have : flC kdPr (A ++ B) ++ (Y2 ++ Z2) = flC kdPr A ++ (flC kdPr B ++ Z) := by rw [flC_app, ← eZ, List.append_assoc]
    rw [hW1, this]; exact setRow_heap w.drew g _ _ _ _ h.blk
  rw [← hW1] at hr
  obtain ⟨Y3, hY3, hcl⟩ := run_clearF kdPr_ok kdPr_z W1 g ((A.length + B.length) * 2) 1 (cap - (A.length + B.length)) (flC kdPr (A ++ B)) Y2 Z2 hb1 (by rw [flC_len kdPr_ok, List.length_append, k2]) (by rw [hY2, k2]) (by omega)
  obtain ⟨W2, hW2⟩ : ∃ W2, W2 = W1.setRow g (flC kdPr (A ++ B) ++ (Y3 ++ Z2)).toArray := ⟨_, rfl⟩
  rw [← hW2] at hcl
  have HE : Hid (InsP kdPr w0 w (.slice (some ⟨g, 0, none⟩) (A.length + B.length + 1) cap) (A ++ B) (.returned (.slice (some ⟨g, 0, none⟩) (A.length + B.length) cap)) W2) := Lib.hid (by
    have o := FlG.own kdPr_ok (⟨h.lo, by rw [hW2]; exact setRow_heap W1 g _ _ _ _ hb1, by rw [List.length_append]; omega, h.max, by
      have h1 := h.len
      rw [e0] at h1
      simp only [List.length_append, flC_app, show (kdPr.f p).length = 2 from rfl] at h1 hY3 hZ ⊢
      have := congrArg List.length eZ
      rw [List.length_append] at this
      omega⟩ : FlG kdPr w0 W2 g cap (A ++ B) (Y3 ++ Z2))
    rw [List.length_append] at o
    refine ⟨_, rfl, o, ?_, Or.inl rfl⟩
    rw [hW2, hW1]
    exact (((Ch.refl (fun i => some g = some i) w).drew).setRow (g := g) (Or.inl rfl) _).setRow (g := g) (Or.inl rfl) _)
  obtain ⟨i, hi⟩ : ∃ i, i = A.length := ⟨_, rfl⟩
  obtain ⟨m, hm⟩ : ∃ m, m = B.length := ⟨_, rfl⟩
  obtain ⟨t, ht⟩ : ∃ t, t = A.length + B.length := ⟨_, rfl⟩
  obtain ⟨n, hnn⟩ : ∃ n, n = A.length + B.length + 1 := ⟨_, rfl⟩
  have i0 : (0 : Int) ≤ (i : Int) := Int.natCast_nonneg _
  have n0 : (i : Int) + 1 ≤ (n : Int) := by omega
  have n1 : (n : Int) ≤ 1001 := by omega
  have c1 : (n : Int) ≤ (cap : Int) := by omega
  have c2 : (cap : Int) ≤ 9223372036854775807 := by have := h.max; unfold maxLen at this; omega
  have t0 : (t : Int) < (n : Int) := by omega
  have t1 : (0 : Int) ≤ (t : Int) := Int.natCast_nonneg _
  have hb1' : (0 : Int) ≤ (i : Int) + 1 := by omega
  have htn : ((i : Int) + 1).toNat = i + 1 := by omega
  have hne : ¬ ((i : Int) = (i : Int) + 1) := by omega
  have c3 : (i : Int) ≤ (cap : Int) := by omega
  have c4 : (i : Int) + 1 ≤ (cap : Int) := by omega
  have hct : ¬ (cap = t) := by omega
  have hr1 : ∀ (ty : TypeId) (o q c : Nat), (o = (i + 1) * 2 ∨ B = []) → q = n - (i + 1) → (Builtin.append_ #[86, 86] ty #[.slice (some ⟨g, 0, none⟩) i cap, .slice (some ⟨g, o, none⟩) q c]).run Try.prog w.drew = .ok (.slice (some ⟨g, 0, none⟩) t cap) W1 := fun ty o q c ho hq => by
    rw [hi, ht, show q = B.length by omega]
    refine hr ty _ c ?_
    rcases ho with ho | ho
    · exact Or.inr (by rw [ho, hi])
    · exact Or.inl ho
  have hc2 : ∀ ty, (Builtin.clear_ #[86] ty #[.slice (some ⟨g, t * 2, none⟩) (n - t) (cap - t)]).run Try.prog W1 = .ok (.tuple #[]) W2 := fun ty => by
    rw [ht, hnn, show A.length + B.length + 1 - (A.length + B.length) = 1 by omega]
    exact hcl ty
  have hcase : (¬ (cap = i + 1)) ∨ (cap = i + 1 ∧ B = []) := by
    by_cases e : cap = i + 1
    · exact Or.inr ⟨e, List.eq_nil_of_length_eq_zero (by omega)⟩
    · exact Or.inl e
  rw [← hnn, ← ht] at HE
  rw [← hnn, ← hi]
  rcases hcase with hcase | ⟨hcase, hB0⟩
  · have hra := fun ty => hr1 ty ((i + 1) * 2) (n - (i + 1)) (cap - (i + 1)) (Or.inl rfl) rfl
    clear hr1 hcl hr hb1 hblk0 hfront h hW1 hW2 hY hZ eY eZ hY2 hY3 e0 hA2 hB2 hAB hle hm ht hnn hi hn
    go_enter Try.func55, Try.ntmps55
    go_wp2
    go_region_law (refine step_app rfl _ _ 86 86 rfl _ _ (by simp [Act.eval, Act.put]) (by simp [Act.eval, Act.put]) (hra _) ?_)
    clear hra
    go_wp2_with (at_builtin; refine clear_op rfl (.tmp 31) 86 rfl _ rfl (hc2 _) ?_)
    go_ret
    exact HE.out
  · have hra := fun ty => hr1 ty 0 (n - (i + 1)) 0 (Or.inr hB0) rfl
    have d1 : (i : Int) ≤ (i : Int) + 1 := by omega
    have d2 : (n : Int) ≤ (i : Int) + 1 := by omega
    have d3 : ¬ (i + 1 = t) := by omega
    rw [hcase] at hra HE hc2
    rw [hcase]
    clear hr1 hB0 hcl hr hb1 hblk0 hfront h hW1 hW2 hY hZ eY eZ hY2 hY3 e0 hA2 hB2 hAB hle hm ht hnn hi hn
    go_enter Try.func55, Try.ntmps55
    go_wp2
    go_region_law (refine step_app rfl _ _ 86 86 rfl _ _ (by simp [Act.eval, Act.put]) (by simp [Act.eval, Act.put]) (hra _) ?_)
    clear hra
    go_wp2_with (at_builtin; refine clear_op rfl (.tmp 31) 86 rfl _ rfl (hc2 _) ?_)
    go_ret
    exact HE.out
#print axioms delete_some
end Go.Proofs.Ytkpahhioiefcbaa
