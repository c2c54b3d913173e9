/-
  slices.Replace of one child by two, and of two by one, walked. slices.Replace of two children by one, walked.
-/
import Derived.Test.YtkpahhioiefcbaaMb15
namespace Go.Proofs.Ytkpahhioiefcbaa
open Go.RowKit
set_option linter.unusedVariables false
set_option maxRecDepth 100000
set_option linter.unusedSimpArgs false

theorem overNd (w : World) (a b oa ob la ca lb cb : Nat) (hne : a ≠ b) (cA cB : Array Value) (tA tB : TypeId) (hA : w.heap[a]? = some (.cells cA tA (0, 0))) (hB : w.heap[b]? = some (.cells cB tB (0, 0))) (hk : 0 < cB.size) :
    (callFunc 78 #[.slice (some ⟨a, oa, none⟩) la ca, .slice (some ⟨b, ob, none⟩) lb cb]).run Try.prog w = .ok (.value (.bool false)) w := by
  rw [run_callFunc_extern Try.func78 (by kernel_rfl) (by kernel_rfl) (by kernel_rfl) (e := Extern.SlicesOverlaps.overlaps #[kdNd.S, kdNd.S] #[ /-t-/4]) (by kernel_rfl),
    overlaps_no w kdNd.S kdNd.T /-t-/4 kdNd_ok.un 1 (by kernel_rfl) a b oa ob la ca lb cb hne cA cB tA tB hA hB hk]
  rfl
def Repl (w : World) (s : Value) (i j : Nat) (b m : Nat) (Q : Ending → World → Prop) : Prop :=
  Calls Try.prog 70 #[s, .int .i64 (i : Int), .int .i64 (j : Int), .slice (some ⟨b, 0, none⟩) m m] w Q
set_option maxHeartbeats 1600000 in
set_option maxRecDepth 100000 in
theorem repl2_end (w0 w : World) (g cap : Nat) (A : List Nat) (m l r : Nat) (R : List Value) (b : Nat) (h : FlG kdNd w0 w g cap (A ++ [m]) R) (hx : w.heap[b]? = some (.cells (flC kdNd [l, r]).toArray kdNd.T (0, 0))) (hn : A.length ≤ 1000) (hw : w0.heap.size ≤ w.heap.size) :
    Repl w (.slice (some ⟨g, 0, none⟩) (A.length + 1) cap) A.length (A.length + 1) b 2 (InsP kdNd w0 w (.slice (some ⟨g, 0, none⟩) (A.length + 1) cap) (A ++ [l, r])) := by
  have hM : FlV kdNd w (some ⟨b, 0, none⟩) 2 [l, r] := flv_blk kdNd_ok (R := []) (by rw [List.append_nil]; exact hx) (by simp) (by simp)
  have hle := h.le
  rw [List.length_append] at hle
  obtain ⟨v', w', hr, h2, h3, h4⟩ := (h.front.own kdNd_ok).appV kdNd_ok 87 _ _ hM (by simp; omega) hw
  have HE : Hid (InsP kdNd w0 w (.slice (some ⟨g, 0, none⟩) (A.length + 1) cap) (A ++ [l, r]) (.returned v') w') := Lib.hid ⟨_, rfl, h2, h3, h4.imp id fun q i e => by rw [q] at e; injection e with e; exact Nat.le_of_eq e⟩
  obtain ⟨A', C', rfl⟩ := h2.len
  have hl2 : (A ++ [l, r]).length = A.length + 2 := by simp
  rw [hl2] at hr HE
  obtain ⟨i, hi⟩ : ∃ i, i = A.length := ⟨_, rfl⟩
  obtain ⟨n, hnn⟩ : ∃ n, n = i + 1 := ⟨_, rfl⟩
  obtain ⟨n2, hn2⟩ : ∃ n, n = i + 2 := ⟨_, rfl⟩
  rw [← hi] at HE hr ⊢
  rw [← hn2] at HE hr
  rw [← hnn] at HE ⊢
  have i0 : (0 : Int) ≤ (i : Int) := Int.natCast_nonneg _
  have n0 : (i : Int) < (n : Int) := by omega
  have n1 : (n : Int) ≤ 1001 := by omega
  have n3 : ¬ (n2 : Int) < (n : Int) := by omega
  have c1 : (n : Int) ≤ (cap : Int) := by rw [hnn, hi]; simp at hle; omega
  have c2 : (cap : Int) ≤ 9223372036854775807 := by have := h.max; unfold maxLen at this; omega
  have c3 : (i : Int) ≤ (cap : Int) := by omega
  have HR := Lib.hid hr
  clear hr h h2 h3 h4 hM hx hi hnn hn2 hn hle hl2
  unfold Repl
  go_enter Try.func70, Try.ntmps70
  go_wp2_with (at_builtin; refine wpList_appF 87 _ rfl (.tmp 32) (.tmp 33) rfl rfl _ _ _ w' rfl rfl (by exact HR.out) ?_)
  all_goals (go_ret; exact HE.out)
#print axioms repl2_end
set_option maxHeartbeats 1600000 in
set_option maxRecDepth 100000 in
theorem repl2_shift (w0 w : World) (g cap : Nat) (A B : List Nat) (m l r : Nat) (R : List Value) (b : Nat) (h : FlG kdNd w0 w g cap (A ++ m :: B) R) (hx : w.heap[b]? = some (.cells (flC kdNd [l, r]).toArray kdNd.T (0, 0))) (hb : b ≠ g) (hB : 0 < B.length) (hc : A.length + B.length + 2 ≤ cap) (hn : A.length + B.length ≤ 1000) :
    Repl w (.slice (some ⟨g, 0, none⟩) (A.length + B.length + 1) cap) A.length (A.length + 1) b 2 (InsP kdNd w0 w (.slice (some ⟨g, 0, none⟩) (A.length + B.length + 1) cap) (A ++ l :: r :: B)) := by
  have eA : A ++ m :: B = (A ++ [m]) ++ B := by rw [List.append_assoc]; rfl
  rw [eA] at h
  obtain ⟨U, Z, hU, hlen, hcp1⟩ := run_shift kdNd_ok h (by rw [List.length_append]; simp; omega)
  obtain ⟨W1, hW1⟩ : ∃ W1, W1 = w.drew.drew.setRow g (flC kdNd (A ++ [m]) ++ (U ++ (flC kdNd B ++ Z))).toArray := ⟨_, rfl⟩
  have hB1 : W1.heap[g]? = some (.cells (flC kdNd A ++ ((flC kdNd [m] ++ U) ++ (flC kdNd B ++ Z))).toArray kdNd.T (0, 0)) := by
    rw [hW1, show flC kdNd A ++ ((flC kdNd [m] ++ U) ++ (flC kdNd B ++ Z)) = flC kdNd (A ++ [m]) ++ (U ++ (flC kdNd B ++ Z)) by rw [flC_app]; simp only [List.append_assoc]]
    exact setRow_heap w.drew.drew g _ _ _ _ h.blk
  have hbb : W1.heap[b]? = some (.cells (flC kdNd [l, r]).toArray kdNd.T (0, 0)) := by rw [hW1, setRow_other w.drew.drew g b _ hb]; exact hx
  have hcp2 := run_over kdNd_ok hB1 [l, r] (by rw [List.length_append, hU]; rfl) ⟨b, 0, none⟩ (src_flv kdNd_ok (flv_blk kdNd_ok (C := 2) (R := []) (M := [l, r]) hbb (by simp) (by simp))) W1 rfl
  obtain ⟨W2, hW2⟩ : ∃ W2, W2 = W1.setRow g (flC kdNd (A ++ [l, r]) ++ (flC kdNd B ++ Z)).toArray := ⟨_, rfl⟩
  have hcp1 := hcp1 w.drew.drew rfl
  rw [← hW1] at hcp1
  rw [← hW2] at hcp2
  have HE : Hid (InsP kdNd w0 w (.slice (some ⟨g, 0, none⟩) (A.length + B.length + 1) cap) (A ++ l :: r :: B) (.returned (.slice (some ⟨g, 0, none⟩) (A.length + B.length + 2) cap)) W2) := Lib.hid (by
    have e2 : flC kdNd (A ++ [l, r]) ++ (flC kdNd B ++ Z) = flC kdNd (A ++ l :: r :: B) ++ Z := by rw [← List.append_assoc, ← flC_app, List.append_assoc]; rfl
    have hl2 : (A ++ l :: r :: B).length = A.length + B.length + 2 := by simp only [List.length_append, List.length_cons]; omega
    have o := FlG.own kdNd_ok (⟨h.lo, by rw [hW2, e2]; exact setRow_heap W1 g _ _ _ _ hB1, by rw [hl2]; exact hc, h.max, by
      rw [← e2, ← h.len, ← hlen]
      have := hU
      simp only [List.length_append, flC_app, show (flC kdNd [l, r]).length = 2 from rfl, show (flC kdNd [m]).length = 1 from rfl, show kdNd.k = 1 from rfl] at this ⊢
      omega⟩ : FlG kdNd w0 W2 g cap (A ++ l :: r :: B) Z)
    rw [hl2] at o
    refine ⟨_, rfl, o, ?_, Or.inl rfl⟩
    rw [hW2, hW1]
    exact (((Ch.refl (fun i => some g = some i) w).drew.drew).setRow (g := g) (Or.inl rfl) _).setRow (g := g) (Or.inl rfl) _)
  have hov := fun oa ob la ca lb cb => overNd w.drew g b oa ob la ca lb cb (Ne.symm hb) _ _ _ _ h.blk hx (show 0 < 2 by omega)
  obtain ⟨i, hi⟩ : ∃ i, i = A.length := ⟨_, rfl⟩
  obtain ⟨j, hj⟩ : ∃ j, j = A.length + 1 := ⟨_, rfl⟩
  obtain ⟨n, hnn⟩ : ∃ n, n = A.length + B.length + 1 := ⟨_, rfl⟩
  obtain ⟨t, ht⟩ : ∃ t, t = A.length + B.length + 2 := ⟨_, rfl⟩
  obtain ⟨bl, hbl⟩ : ∃ bl, bl = B.length := ⟨_, rfl⟩
  have hc1 : ∀ ty, (Builtin.copy_ #[87, 87] ty #[.slice (some ⟨g, i + 2, none⟩) (t - (i + 2)) (cap - (i + 2)), .slice (some ⟨g, j, none⟩) (n - j) (cap - j)]).run Try.prog w.drew.drew = .ok (.int .i64 (bl : Int)) W1 := fun ty => by
    rw [hbl]
    exact hcp1 ty _ _ _ _ _ _ (by rw [hi, List.length_append]; simp [kdNd]) (by rw [hj, List.length_append]; simp [kdNd]) (by simp only [Nat.min_def]; split <;> omega)
  have hc2 : ∀ ty, (Builtin.copy_ #[87, 87] ty #[.slice (some ⟨g, i, none⟩) (t - i) (cap - i), .slice (some ⟨b, 0, none⟩) 2 2]).run Try.prog W1 = .ok (.int .i64 2) W2 := fun ty =>
    hcp2 ty _ _ _ _ _ (by rw [hi]; simp [kdNd]) (by simp only [Nat.min_def]; split <;> simp <;> omega)
  have HT : Hid ((i : Int) + 2 + ((n - j : Nat) : Int) = (t : Int)) := Lib.hid (by omega)
  have i0 : (0 : Int) ≤ (i : Int) := Int.natCast_nonneg _
  have j0 : (i : Int) < (j : Int) := by omega
  have n0 : (j : Int) < (n : Int) := by omega
  have n1 : (n : Int) ≤ 1001 := by omega
  have t0 : (i : Int) + 2 ≤ (t : Int) := by omega
  have t1 : (t : Int) ≤ (cap : Int) := by omega
  have t2 : (i : Int) ≤ (t : Int) := by omega
  have c1 : (n : Int) + 1 ≤ (cap : Int) := by omega
  have c2 : (cap : Int) ≤ 9223372036854775807 := by have := h.max; unfold maxLen at this; omega
  rw [← hnn, ← ht] at HE
  rw [← hnn, ← hj, ← hi]
  have hw2 : IntKind.i64.wrap ((i : Int) + 2) = (i : Int) + 2 := by rw [IntKind.wrap_i64]; omega
  have htn2 : ((i : Int) + 2).toNat = i + 2 := by omega
  have b2 : (0 : Int) ≤ (i : Int) + 2 := by omega
  have b3 : (i : Int) ≤ (cap : Int) := by omega
  have b5 : ¬ (cap = i) := by omega
  have b6 : ¬ (cap = j) := by omega
  have b7 : ¬ (cap = i + 2) := by omega
  have b8 : ¬ ((i : Int) + 2 ≤ (j : Int)) := by omega
  have HOV := Lib.hid hov
  have HC1 := Lib.hid hc1
  have HC2 := Lib.hid hc2
  clear hov hc1 hc2 h hx hB hc hn eA hU hlen hcp1 hcp2 hW1 hB1 hbb hW2 hi hnn ht hbl hj
  unfold Repl
  go_enter Try.func70, Try.ntmps70
  go_wp2_with fail
  go_region
  rw [HT.out]
  have hov := HOV.out
  go_wp2_with (simp only [hov])
  clear hov
  have hc1 := HC1.out
  go_region
  clear hc1
  have hc2 := HC2.out
  go_wp2_with (at_builtin; refine copy_op rfl (.tmp 133) (.tmp 134) 87 87 rfl _ _ rfl rfl (hc2 _) ?_)
  go_ret
  exact HE.out
#print axioms repl2_shift
set_option maxHeartbeats 1600000 in
set_option maxRecDepth 100000 in
theorem repl2_grow (w0 w : World) (g cap : Nat) (A B : List Nat) (m l r : Nat) (R : List Value) (b : Nat) (h : FlG kdNd w0 w g cap (A ++ m :: B) R) (hx : w.heap[b]? = some (.cells (flC kdNd [l, r]).toArray kdNd.T (0, 0))) (hB : 0 < B.length) (hc : cap < A.length + B.length + 2) (hn : A.length + B.length ≤ 1000) (hw : w0.heap.size ≤ w.heap.size) :
    Repl w (.slice (some ⟨g, 0, none⟩) (A.length + B.length + 1) cap) A.length (A.length + 1) b 2 (InsP kdNd w0 w (.slice (some ⟨g, 0, none⟩) (A.length + B.length + 1) cap) (A ++ l :: r :: B)) := by
  have hle := h.le
  rw [List.length_append, List.length_cons] at hle
  have k1 : kdNd.k = 1 := rfl
  have hA := flC_len kdNd_ok A
  have hBl := flC_len kdNd_ok B
  rw [k1] at hA hBl
  have hbg : w.drew.heap[g]? = some (.cells (flC kdNd (A ++ [m]) ++ (flC kdNd B ++ R)).toArray kdNd.T (0, 0)) := by
    rw [show flC kdNd (A ++ [m]) ++ (flC kdNd B ++ R) = flC kdNd (A ++ m :: B) ++ R by rw [← List.append_assoc, ← flC_app, List.append_assoc]; rfl]
    exact h.blk
  have hbA : w.drew.heap[g]? = some (.cells ([] ++ (flC kdNd A ++ (flC kdNd [m] ++ (flC kdNd B ++ R)))).toArray kdNd.T (0, 0)) := by
    rw [show [] ++ (flC kdNd A ++ (flC kdNd [m] ++ (flC kdNd B ++ R))) = flC kdNd (A ++ [m]) ++ (flC kdNd B ++ R) by rw [flC_app, List.append_assoc]; rfl]
    exact hbg
  obtain ⟨mm, hm⟩ : ∃ m, m = B.length + 2 := ⟨_, rfl⟩
  obtain ⟨c2, R2, w1, hr, hch, hb1, hl1, hc2, hm2⟩ := run_growF kdNd_ok w.drew 87 /-t-/3 (by kernel_rfl) ⟨g, 0, none⟩ A.length cap mm (flC kdNd A) (by rw [hA, k1]) (src_blk (X := []) hbA rfl) (by omega) (by omega) (by omega)
  rw [k1, List.length_append] at hl1
  obtain ⟨U, T, eU, hU⟩ := list_cut R2 2 (by omega)
  obtain ⟨Y, Z, eY, hY⟩ := list_cut T (flC kdNd B).length (by
    have := congrArg List.length eU
    rw [List.length_append] at this
    omega)
  subst eU
  subst eY
  have hlt := blk_lt hx
  have hltg : g < w.heap.size := blk_lt h.blk
  have hbb : w1.heap[b]? = some (.cells (flC kdNd [l, r]).toArray kdNd.T (0, 0)) := (hch.block _ hlt (fun f => f)).trans hx
  have hcp2 := run_over kdNd_ok hb1 [l, r] (by rw [hU]; rfl) ⟨b, 0, none⟩ (src_flv kdNd_ok (flv_blk kdNd_ok (C := 2) (R := []) (M := [l, r]) hbb (by simp) (by simp))) w1 rfl
  obtain ⟨q, hq⟩ : ∃ q, q = w.drew.heap.size := ⟨_, rfl⟩
  have hq' : q = w.heap.size := hq
  rw [← hq] at hcp2 hr hb1
  obtain ⟨W2, hW2⟩ : ∃ W2, W2 = w1.setRow q (flC kdNd (A ++ [l, r]) ++ (Y ++ Z)).toArray := ⟨_, rfl⟩
  rw [← hW2] at hcp2
  have hB2 : W2.heap[q]? = some (.cells (flC kdNd (A ++ [l, r]) ++ (Y ++ Z)).toArray kdNd.T (0, 0)) := by rw [hW2]; exact setRow_heap w1 _ _ _ _ _ hb1
  have hg2 : W2.heap[g]? = some (.cells (flC kdNd (A ++ [m]) ++ (flC kdNd B ++ R)).toArray kdNd.T (0, 0)) := by
    rw [hW2, setRow_other w1 _ g _ (by omega)]
    exact (hch.block _ hltg (fun f => f)).trans hbg
  have hcp3 := run_over kdNd_ok hB2 B (by rw [hY, hBl, k1]) ⟨g, A.length + 1, none⟩ (src_blk hg2 (by rw [flC_len kdNd_ok, List.length_append, k1]; simp)) W2.drew rfl
  obtain ⟨W3, hW3⟩ : ∃ W3, W3 = W2.drew.setRow q (flC kdNd (A ++ [l, r] ++ B) ++ Z).toArray := ⟨_, rfl⟩
  rw [← hW3] at hcp3
  have HE : Hid (InsP kdNd w0 w (.slice (some ⟨g, 0, none⟩) (A.length + B.length + 1) cap) (A ++ l :: r :: B) (.returned (.slice (some ⟨q, 0, none⟩) (A.length + mm) c2)) W3) := Lib.hid (by
    have e2 : A ++ [l, r] ++ B = A ++ l :: r :: B := by rw [List.append_assoc]; rfl
    have hl2 : (A ++ l :: r :: B).length = A.length + mm := by simp only [List.length_append, List.length_cons]; omega
    have o := FlG.own kdNd_ok (⟨by rw [hq']; exact hw, by rw [hW3, e2]; exact setRow_heap W2.drew _ _ _ _ _ hB2, by rw [hl2]; exact hc2, hm2, by
      simp only [List.length_append, flC_app, show (flC kdNd (l :: r :: B)).length = 2 + (flC kdNd B).length from by rw [flC_len kdNd_ok, hBl, List.length_cons, List.length_cons, k1]; omega, k1] at hl1 ⊢
      omega⟩ : FlG kdNd w0 W3 q c2 (A ++ l :: r :: B) Z)
    rw [hl2] at o
    refine ⟨_, rfl, o, ?_, Or.inr fun i e => by injection e with e; rw [← e]; exact Nat.le_of_eq hq'.symm⟩
    have hch' : Ch (fun i => some g = some i) w w1 := (((Ch.refl (fun _ => False) w).drew).trans hch).mono (fun _ _ f => f.elim)
    rw [hW3, hW2]
    exact ((hch'.setRow (g := q) (Or.inr (Nat.le_of_eq hq'.symm)) _).drew).setRow (g := q) (Or.inr (Nat.le_of_eq hq'.symm)) _)
  obtain ⟨i, hi⟩ : ∃ i, i = A.length := ⟨_, rfl⟩
  obtain ⟨j, hj⟩ : ∃ j, j = A.length + 1 := ⟨_, rfl⟩
  obtain ⟨n, hnn⟩ : ∃ n, n = A.length + B.length + 1 := ⟨_, rfl⟩
  obtain ⟨t, ht⟩ : ∃ t, t = A.length + mm := ⟨_, rfl⟩
  obtain ⟨bl, hbl⟩ : ∃ bl, bl = B.length := ⟨_, rfl⟩
  have hr1 : ∀ ty, (Builtin.append_ #[87, /-t-/3] ty #[.slice (some ⟨g, 0, none⟩) i cap, .int .i64 (mm : Int)]).run Try.prog w.drew = .ok (.slice (some ⟨q, 0, none⟩) t c2) w1 := fun ty => by rw [hi, ht]; exact hr
  have hc1 : ∀ ty, (Builtin.copy_ #[87, 87] ty #[.slice (some ⟨q, i, none⟩) (t - i) (c2 - i), .slice (some ⟨b, 0, none⟩) 2 2]).run Try.prog w1 = .ok (.int .i64 2) W2 := fun ty =>
    hcp2 ty _ _ _ _ _ (by rw [hi]; simp [kdNd]) (by simp only [Nat.min_def]; split <;> simp <;> omega)
  have hc3 : ∀ ty, (Builtin.copy_ #[87, 87] ty #[.slice (some ⟨q, i + 2, none⟩) (t - (i + 2)) (c2 - (i + 2)), .slice (some ⟨g, j, none⟩) (n - j) (cap - j)]).run Try.prog W2.drew = .ok (.int .i64 (bl : Int)) W3 := fun ty => by
    rw [hbl, hj]
    exact hcp3 ty _ _ _ _ _ (by rw [hi, List.length_append]; simp [kdNd]) (by simp only [Nat.min_def]; split <;> omega)
  have HT : Hid ((i : Int) + 2 + ((n - j : Nat) : Int) = (t : Int)) := Lib.hid (by omega)
  have HT2 : Hid (IntKind.i64.wrap ((t : Int) - (i : Int)) = (mm : Int)) := Lib.hid (by rw [IntKind.wrap_i64]; omega)
  have i0 : (0 : Int) ≤ (i : Int) := Int.natCast_nonneg _
  have j0 : (i : Int) < (j : Int) := by omega
  have n0 : (j : Int) < (n : Int) := by omega
  have n1 : (n : Int) ≤ 1001 := by omega
  have t0 : (i : Int) + 2 ≤ (t : Int) := by omega
  have t1 : (t : Int) ≤ (c2 : Int) := by omega
  have t2 : (i : Int) ≤ (t : Int) := by omega
  have t3 : ((cap : Nat) : Int) < (t : Int) := by omega
  have c1 : (n : Int) ≤ (cap : Int) := by omega
  have c5 : (c2 : Int) ≤ 9223372036854775807 := by unfold maxLen at hm2; omega
  rw [← hnn, ← ht] at HE
  rw [← hnn, ← hj, ← hi]
  have hw2 : IntKind.i64.wrap ((i : Int) + 2) = (i : Int) + 2 := by rw [IntKind.wrap_i64]; omega
  have htn2 : ((i : Int) + 2).toNat = i + 2 := by omega
  have b2 : (0 : Int) ≤ (i : Int) + 2 := by omega
  have b3 : (i : Int) ≤ (cap : Int) := by omega
  have b4 : (t : Int) - (i : Int) = (mm : Int) := by omega
  have b5 : ¬ (cap = i) := by omega
  have b6 : ¬ (cap = j) := by omega
  have b7 : ¬ (c2 = i + 2) := by omega
  have b8 : ¬ (c2 = i) := by omega
  have HB4 := Lib.hid b4
  have HR := Lib.hid hr1
  have HC1 := Lib.hid hc1
  have HC3 := Lib.hid hc3
  clear b4 hr1 hc1 hc3 h hx hB hc hn hU hl1 hcp2 hcp3 hr hb1 hch hbb hW2 hW3 hB2 hg2 hi hnn ht hbl hj hY hlt hltg hbg hbA hA hBl hc2 hm2 hq hq' hm hle hw
  unfold Repl
  go_enter Try.func70, Try.ntmps70
  go_wp2_with fail
  go_region
  rw [HT.out]
  have b4 := HB4.out
  have hc1 := HC1.out
  go_wp2_with (first
    | (at_builtin; refine Lib.wpList_append_run _ rfl (.tmp 63) (.tmp 66) 87 /-t-/3 rfl _ _ rfl rfl _ w1 (by exact HR.out _) ?_)
    | (at_builtin; refine copy_op rfl (.tmp 70) (.tmp 71) 87 87 rfl _ _ rfl rfl (hc1 _) ?_)
    | fail)
  clear hc1
  have hc3 := HC3.out
  go_region
  go_wp2
  go_ret
  exact HE.out
#print axioms repl2_grow
end Go.Proofs.Ytkpahhioiefcbaa
namespace Go.Proofs.Ytkpahhioiefcbaa
open Go.RowKit
set_option linter.unusedVariables false
set_option maxRecDepth 100000
set_option linter.unusedSimpArgs false

set_option maxHeartbeats 1600000 in
set_option maxRecDepth 100000 in
theorem repl1_end (w0 w : World) (g cap : Nat) (A : List Nat) (m m2 x : Nat) (R : List Value) (b : Nat) (h : FlG kdNd w0 w g cap (A ++ [m, m2]) R) (hx : w.heap[b]? = some (.cells (flC kdNd [x]).toArray kdNd.T (0, 0))) (hn : A.length ≤ 1000) :
    Repl w (.slice (some ⟨g, 0, none⟩) (A.length + 2) cap) A.length (A.length + 2) b 1 (InsP kdNd w0 w (.slice (some ⟨g, 0, none⟩) (A.length + 2) cap) (A ++ [x])) := by
  have hM : FlV kdNd w (some ⟨b, 0, none⟩) 1 [x] := flv_blk kdNd_ok (R := []) (by rw [List.append_nil]; exact hx) (by simp) (by simp)
  have hle := h.le
  rw [List.length_append] at hle
  have k1 : kdNd.k = 1 := rfl
  have hA := flC_len kdNd_ok A
  rw [k1] at hA
  have e0 : flC kdNd (A ++ [m, m2]) ++ R = flC kdNd A ++ (flC kdNd [m] ++ (flC kdNd [m2] ++ R)) := by rw [flC_app, List.append_assoc]; rfl
  have hf : FlG kdNd w0 w g cap A (flC kdNd [m] ++ (flC kdNd [m2] ++ R)) := ⟨h.lo, by rw [← e0]; exact h.blk, by omega, h.max, by rw [← e0]; exact h.len⟩
  have hr : ∀ (ty : TypeId), (Builtin.append_ #[kdNd.S, kdNd.S] ty #[.slice (some ⟨g, 0, none⟩) A.length cap, .slice (some ⟨b, 0, none⟩) 1 1]).run Try.prog w = .ok (.slice (some ⟨g, 0, none⟩) (A.length + 1) cap) (w.setRow g (flC kdNd A ++ (flC kdNd [x] ++ (flC kdNd [m2] ++ R))).toArray) := fun ty =>
    run_appF_room kdNd_ok hf ty ⟨b, 0, none⟩ 1 1 (flC kdNd [x]) rfl rfl (src_flv kdNd_ok hM) (flC_one kdNd_ok _) (by simp at hle; omega)
  obtain ⟨W1, hW1⟩ : ∃ W1, W1 = w.setRow g (flC kdNd A ++ (flC kdNd [x] ++ (flC kdNd [m2] ++ R))).toArray := ⟨_, rfl⟩
  rw [← hW1] at hr
  have e1 : flC kdNd A ++ (flC kdNd [x] ++ (flC kdNd [m2] ++ R)) = flC kdNd (A ++ [x]) ++ (flC kdNd [m2] ++ R) := by rw [flC_app, List.append_assoc]
  have hb1 : W1.heap[g]? = some (.cells (flC kdNd (A ++ [x]) ++ (flC kdNd [m2] ++ R)).toArray kdNd.T (0, 0)) := by
    rw [hW1, ← e1]; exact setRow_heap w g _ _ _ _ h.blk
  obtain ⟨Y3, hY3, hcl⟩ := run_clearF kdNd_ok kdNd_z W1 g (A.length + 1) 1 (cap - (A.length + 1)) (flC kdNd (A ++ [x])) (flC kdNd [m2]) R hb1 (by rw [flC_len kdNd_ok, List.length_append, k1]; simp) rfl (by omega)
  obtain ⟨W2, hW2⟩ : ∃ W2, W2 = W1.setRow g (flC kdNd (A ++ [x]) ++ (Y3 ++ R)).toArray := ⟨_, rfl⟩
  rw [← hW2] at hcl
  have HE : Hid (InsP kdNd w0 w (.slice (some ⟨g, 0, none⟩) (A.length + 2) cap) (A ++ [x]) (.returned (.slice (some ⟨g, 0, none⟩) (A.length + 1) cap)) W2) := Lib.hid (by
    have o := FlG.own kdNd_ok (⟨h.lo, by rw [hW2]; exact setRow_heap W1 g _ _ _ _ hb1, by simp at hle ⊢; omega, h.max, by
      have h1 := h.len
      rw [e0] at h1
      simp only [List.length_append, flC_app, hY3, show (flC kdNd [m]).length = 1 from rfl, show (flC kdNd [x]).length = 1 from rfl] at h1 ⊢
      omega⟩ : FlG kdNd w0 W2 g cap (A ++ [x]) (Y3 ++ R))
    rw [List.length_append] at o
    refine ⟨_, rfl, o, ?_, Or.inl rfl⟩
    rw [hW2, hW1]
    exact ((Ch.refl (fun i => some g = some i) w).setRow (g := g) (Or.inl rfl) _).setRow (g := g) (Or.inl rfl) _)
  obtain ⟨i, hi⟩ : ∃ i, i = A.length := ⟨_, rfl⟩
  obtain ⟨n, hnn⟩ : ∃ n, n = A.length + 2 := ⟨_, rfl⟩
  obtain ⟨t, ht⟩ : ∃ n, n = A.length + 1 := ⟨_, rfl⟩
  have hr1 : ∀ ty, (Builtin.append_ #[87, 87] ty #[.slice (some ⟨g, 0, none⟩) i cap, .slice (some ⟨b, 0, none⟩) 1 1]).run Try.prog w = .ok (.slice (some ⟨g, 0, none⟩) t cap) W1 := fun ty => by rw [hi, ht]; exact hr ty
  have hc2 : ∀ ty, (Builtin.clear_ #[87] ty #[.slice (some ⟨g, t, none⟩) (n - t) (cap - t)]).run Try.prog W1 = .ok (.tuple #[]) W2 := fun ty => by
    rw [ht, hnn, show A.length + 2 - (A.length + 1) = 1 by omega]; exact hcl ty
  rw [← hnn, ← ht] at HE
  rw [← hnn, ← hi]
  simp only [List.length_cons, List.length_nil] at hle
  have i0 : (0 : Int) ≤ (i : Int) := Int.natCast_nonneg _
  have n0 : (i : Int) < (n : Int) := by omega
  have n1 : (n : Int) ≤ 1002 := by omega
  have n3 : (t : Int) < (n : Int) := by omega
  have t0 : (0 : Int) ≤ (t : Int) := Int.natCast_nonneg _
  have c1 : (n : Int) ≤ (cap : Int) := by omega
  have c2 : (cap : Int) ≤ 9223372036854775807 := by have := h.max; unfold maxLen at this; omega
  have c3 : (i : Int) ≤ (cap : Int) := by omega
  have c4 : ¬ (cap = t) := by omega
  have HR := Lib.hid hr1
  clear hr hr1 h hM hx hi hnn hn hle hA e0 hf hW1 e1 hb1 hY3 hcl hW2 ht
  unfold Repl
  go_enter Try.func70, Try.ntmps70
  go_wp2_with (first
    | (at_builtin; refine wpList_appF 87 _ rfl (.tmp 32) (.tmp 33) rfl rfl _ _ _ W1 rfl rfl (by exact HR.out _) ?_)
    | (at_builtin; refine clear_op rfl (.tmp 43) 87 rfl _ rfl (hc2 _) ?_)
    | fail)
  go_ret
  exact HE.out
#print axioms repl1_end
set_option maxHeartbeats 1600000 in
set_option maxRecDepth 100000 in
theorem repl1_shift (w0 w : World) (g cap : Nat) (A B : List Nat) (m m2 x : Nat) (R : List Value) (b : Nat) (h : FlG kdNd w0 w g cap (A ++ m :: m2 :: B) R) (hx : w.heap[b]? = some (.cells (flC kdNd [x]).toArray kdNd.T (0, 0))) (hb : b ≠ g) (hB : 0 < B.length) (hn : A.length + B.length ≤ 1000) :
    Repl w (.slice (some ⟨g, 0, none⟩) (A.length + B.length + 2) cap) A.length (A.length + 2) b 1 (InsP kdNd w0 w (.slice (some ⟨g, 0, none⟩) (A.length + B.length + 2) cap) (A ++ x :: B)) := by
  have hle := h.le
  rw [List.length_append] at hle
  simp only [List.length_cons] at hle
  have k1 : kdNd.k = 1 := rfl
  have hA := flC_len kdNd_ok A
  have hBl := flC_len kdNd_ok B
  rw [k1] at hA hBl
  have e0 : flC kdNd (A ++ m :: m2 :: B) ++ R = flC kdNd A ++ (flC kdNd [m] ++ (flC kdNd [m2] ++ (flC kdNd B ++ R))) := by rw [flC_app, List.append_assoc]; rfl
  have hb0 : w.drew.heap[g]? = some (.cells (flC kdNd A ++ (flC kdNd [m] ++ (flC kdNd [m2] ++ (flC kdNd B ++ R)))).toArray kdNd.T (0, 0)) := by rw [← e0]; exact h.blk
  have hx0 : w.drew.heap[b]? = some (.cells (flC kdNd [x]).toArray kdNd.T (0, 0)) := hx
  have hcp1 := run_over kdNd_ok hb0 [x] rfl ⟨b, 0, none⟩ (src_flv kdNd_ok (flv_blk kdNd_ok (C := 1) (R := []) (M := [x]) (by rw [List.append_nil]; exact hx0) (by simp) (by simp))) w.drew rfl
  obtain ⟨W1, hW1⟩ : ∃ W1, W1 = w.drew.setRow g (flC kdNd (A ++ [x]) ++ (flC kdNd [m2] ++ (flC kdNd B ++ R))).toArray := ⟨_, rfl⟩
  rw [← hW1] at hcp1
  obtain ⟨Y, Z, eY, hY⟩ := list_cut (flC kdNd [m2] ++ (flC kdNd B ++ R)) (flC kdNd B).length (by simp only [List.length_append]; omega)
  have hZ : Z.length = 1 + R.length := by
    have := congrArg List.length eY
    simp only [List.length_append, show (flC kdNd [m2]).length = 1 from rfl] at this
    omega
  obtain ⟨Y2, Z2, eZ, hY2⟩ := list_cut Z 1 (by omega)
  have hB1 : W1.heap[g]? = some (.cells (flC kdNd (A ++ [x]) ++ (flC kdNd [m2] ++ (flC kdNd B ++ R))).toArray kdNd.T (0, 0)) := by rw [hW1]; exact setRow_heap w.drew g _ _ _ _ h.blk
  have hB1' : W1.heap[g]? = some (.cells (flC kdNd (A ++ [x]) ++ (Y ++ Z)).toArray kdNd.T (0, 0)) := by rw [← eY]; exact hB1
  have hcp2 := run_over kdNd_ok hB1' B (by rw [hY, hBl, k1]) ⟨g, A.length + 2, none⟩ (src_blk (X := flC kdNd (A ++ [x]) ++ flC kdNd [m2]) (by rw [List.append_assoc]; exact hB1) (by rw [List.length_append, flC_len kdNd_ok, List.length_append, k1, show (flC kdNd [m2]).length = 1 from rfl]; simp)) W1.drew rfl
  obtain ⟨W2, hW2⟩ : ∃ W2, W2 = W1.drew.setRow g (flC kdNd (A ++ [x] ++ B) ++ Z).toArray := ⟨_, rfl⟩
  rw [← hW2] at hcp2
  have hB2 : W2.heap[g]? = some (.cells (flC kdNd (A ++ [x] ++ B) ++ (Y2 ++ Z2)).toArray kdNd.T (0, 0)) := by rw [hW2, ← eZ]; exact setRow_heap W1.drew g _ _ _ _ hB1
  obtain ⟨Y3, hY3, hcl⟩ := run_clearF kdNd_ok kdNd_z W2 g (A.length + B.length + 1) 1 (cap - (A.length + B.length + 1)) (flC kdNd (A ++ [x] ++ B)) Y2 Z2 hB2 (by rw [flC_len kdNd_ok, k1]; simp only [List.length_append, List.length_cons, List.length_nil]; omega) (by rw [hY2, k1]) (by omega)
  obtain ⟨W3, hW3⟩ : ∃ W3, W3 = W2.setRow g (flC kdNd (A ++ [x] ++ B) ++ (Y3 ++ Z2)).toArray := ⟨_, rfl⟩
  rw [← hW3] at hcl
  have HE : Hid (InsP kdNd w0 w (.slice (some ⟨g, 0, none⟩) (A.length + B.length + 2) cap) (A ++ x :: B) (.returned (.slice (some ⟨g, 0, none⟩) (A.length + B.length + 1) cap)) W3) := Lib.hid (by
    have e2 : A ++ [x] ++ B = A ++ x :: B := by rw [List.append_assoc]; rfl
    have hl2 : (A ++ x :: B).length = A.length + B.length + 1 := by simp only [List.length_append, List.length_cons]; omega
    have o := FlG.own kdNd_ok (⟨h.lo, by rw [hW3, e2]; exact setRow_heap W2 g _ _ _ _ hB2, by rw [hl2]; omega, h.max, by
      have h1 := h.len
      rw [e0] at h1
      have h2 := congrArg List.length eZ
      rw [List.length_append] at h2
      simp only [List.length_append, flC_app, show (flC kdNd (x :: B)).length = 1 + (flC kdNd B).length from by rw [flC_len kdNd_ok, hBl, List.length_cons, k1]; omega, hY3, show (flC kdNd [m]).length = 1 from rfl, show (flC kdNd [m2]).length = 1 from rfl] at h1 ⊢
      omega⟩ : FlG kdNd w0 W3 g cap (A ++ x :: B) (Y3 ++ Z2))
    rw [hl2] at o
    refine ⟨_, rfl, o, ?_, Or.inl rfl⟩
    rw [hW3, hW2, hW1]
    exact (((((Ch.refl (fun i => some g = some i) w).drew).setRow (g := g) (Or.inl rfl) _).drew).setRow (g := g) (Or.inl rfl) _).setRow (g := g) (Or.inl rfl) _)
  obtain ⟨i, hi⟩ : ∃ i, i = A.length := ⟨_, rfl⟩
  obtain ⟨j, hj⟩ : ∃ j, j = A.length + 2 := ⟨_, rfl⟩
  obtain ⟨n, hnn⟩ : ∃ n, n = A.length + B.length + 2 := ⟨_, rfl⟩
  obtain ⟨t, ht⟩ : ∃ t, t = A.length + B.length + 1 := ⟨_, rfl⟩
  obtain ⟨bl, hbl⟩ : ∃ bl, bl = B.length := ⟨_, rfl⟩
  have hc1 : ∀ ty, (Builtin.copy_ #[87, 87] ty #[.slice (some ⟨g, i, none⟩) (t - i) (cap - i), .slice (some ⟨b, 0, none⟩) 1 1]).run Try.prog w.drew = .ok (.int .i64 1) W1 := fun ty =>
    hcp1 ty _ _ _ _ _ (by rw [hi]; simp [kdNd]) (by simp only [Nat.min_def]; split <;> simp <;> omega)
  have hc2 : ∀ ty, (Builtin.copy_ #[87, 87] ty #[.slice (some ⟨g, i + 1, none⟩) (t - (i + 1)) (cap - (i + 1)), .slice (some ⟨g, j, none⟩) (n - j) (cap - j)]).run Try.prog W1.drew = .ok (.int .i64 (bl : Int)) W2 := fun ty => by
    rw [hbl, hj]
    exact hcp2 ty _ _ _ _ _ (by rw [hi, List.length_append]; simp [kdNd]) (by simp only [Nat.min_def]; split <;> omega)
  have hc3 : ∀ ty, (Builtin.clear_ #[87] ty #[.slice (some ⟨g, t, none⟩) (n - t) (cap - t)]).run Try.prog W2 = .ok (.tuple #[]) W3 := fun ty => by
    rw [ht, hnn, show A.length + B.length + 2 - (A.length + B.length + 1) = 1 by omega]
    exact hcl ty
  have HT : Hid ((i : Int) + 1 + ((n - j : Nat) : Int) = (t : Int)) := Lib.hid (by omega)
  have i0 : (0 : Int) ≤ (i : Int) := Int.natCast_nonneg _
  have j0 : (i : Int) < (j : Int) := by omega
  have n0 : (j : Int) < (n : Int) := by omega
  have n1 : (n : Int) ≤ 1002 := by omega
  have t0 : (i : Int) + 1 ≤ (t : Int) := by omega
  have t1 : (t : Int) ≤ (n : Int) := by omega
  have t2 : (i : Int) ≤ (t : Int) := by omega
  have t3 : (t : Int) ≤ (cap : Int) := by omega
  have t4 : (0 : Int) ≤ (t : Int) := Int.natCast_nonneg _
  have c1 : (n : Int) ≤ (cap : Int) := by omega
  have c2 : (cap : Int) ≤ 9223372036854775807 := by have := h.max; unfold maxLen at this; omega
  rw [← hnn, ← ht] at HE
  rw [← hnn, ← hj, ← hi]
  have hw2 : IntKind.i64.wrap ((i : Int) + 1) = (i : Int) + 1 := by rw [IntKind.wrap_i64]; omega
  have htn2 : ((i : Int) + 1).toNat = i + 1 := by omega
  have b2 : (0 : Int) ≤ (i : Int) + 1 := by omega
  have b3 : (i : Int) ≤ (cap : Int) := by omega
  have b5 : ¬ (cap = i) := by omega
  have b6 : ¬ (cap = j) := by omega
  have b7 : ¬ (cap = i + 1) := by omega
  have b9 : ¬ (cap = t) := by omega
  have b8 : (i : Int) + 1 ≤ (j : Int) := by omega
  have HC1 := Lib.hid hc1
  have HC2 := Lib.hid hc2
  have HC3 := Lib.hid hc3
  clear hc1 hc2 hc3 h hx hB hn hcp1 hcp2 hcl hW1 hW2 hW3 hB1 hB1' hB2 hb0 hx0 hi hnn ht hbl hj hY hZ hY2 hY3 eY eZ e0 hA hBl hle
  unfold Repl
  go_enter Try.func70, Try.ntmps70
  go_wp2_with fail
  go_region
  rw [HT.out]
  have hc1 := HC1.out
  go_wp2_with (at_builtin; refine copy_op rfl (.tmp 95) (.tmp 96) 87 87 rfl _ _ rfl rfl (hc1 _) ?_)
  clear hc1
  have hc2 := HC2.out
  go_region
  clear hc2
  have hc3 := HC3.out
  go_wp2_with (at_builtin; refine clear_op rfl (.tmp 110) 87 rfl _ rfl (hc3 _) ?_)
  go_ret
  exact HE.out
#print axioms repl1_shift
/-- slices.Replace of one child by two. -/
theorem repl2_any (w0 w : World) (v : Value) (A B : List Nat) (m l r : Nat) (b : Nat) (h : FlO kdNd w0 w v (A ++ m :: B)) (hx : w.heap[b]? = some (.cells (flC kdNd [l, r]).toArray kdNd.T (0, 0))) (hb : v.ownBlock ≠ some b) (hn : A.length + B.length ≤ 1000) (hw : w0.heap.size ≤ w.heap.size) :
    Repl w v A.length (A.length + 1) b 2 (InsP kdNd w0 w v (A ++ l :: r :: B)) := by
  rcases h.parts kdNd_ok with ⟨_, e⟩ | ⟨g, cap, R, rfl, hg⟩
  · simp at e
  · have hl : (A ++ m :: B).length = A.length + B.length + 1 := by simp only [List.length_append, List.length_cons]; omega
    rw [hl]
    by_cases hB : 0 < B.length
    · by_cases hc : A.length + B.length + 2 ≤ cap
      · exact repl2_shift w0 w g cap A B m l r R b hg hx (fun e => hb (by rw [e]; rfl)) hB hc hn
      · exact repl2_grow w0 w g cap A B m l r R b hg hx hB (by omega) hn hw
    · have : B = [] := List.eq_nil_of_length_eq_zero (by omega)
      subst this
      exact repl2_end w0 w g cap A m l r R b hg hx (by simp at hn; exact hn) hw
/-- slices.Replace of two children by one. -/
theorem repl1_any (w0 w : World) (v : Value) (A B : List Nat) (m m2 x : Nat) (b : Nat) (h : FlO kdNd w0 w v (A ++ m :: m2 :: B)) (hx : w.heap[b]? = some (.cells (flC kdNd [x]).toArray kdNd.T (0, 0))) (hb : v.ownBlock ≠ some b) (hn : A.length + B.length ≤ 1000) :
    Repl w v A.length (A.length + 2) b 1 (InsP kdNd w0 w v (A ++ x :: B)) := by
  rcases h.parts kdNd_ok with ⟨_, e⟩ | ⟨g, cap, R, rfl, hg⟩
  · simp at e
  · have hl : (A ++ m :: m2 :: B).length = A.length + B.length + 2 := by simp only [List.length_append, List.length_cons]; omega
    rw [hl]
    by_cases hB : 0 < B.length
    · exact repl1_shift w0 w g cap A B m m2 x R b hg hx (fun e => hb (by rw [e]; rfl)) hB hn
    · have : B = [] := List.eq_nil_of_length_eq_zero (by omega)
      subst this
      exact repl1_end w0 w g cap A m m2 x R b hg hx (by simp at hn; exact hn)
#print axioms repl1_any
end Go.Proofs.Ytkpahhioiefcbaa
