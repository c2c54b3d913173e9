/-
  slices.Replace of one child by two, and of two by one, walked.
-/
import Derived.Test.YtkpgaejmhddkdaaTreE
namespace Go.Proofs.Ytkpgaejmhddkdaa
open Go.RowKit
set_option linter.unusedVariables false
set_option maxRecDepth 100000
set_option linter.unusedSimpArgs false

theorem overNd (w : World) (a b oa ob la ca lb cb : Nat) (hne : a ≠ b) (cA cB : Array Value) (tA tB : TypeId) (hA : w.heap[a]? = some (.cells cA tA (0, 0))) (hB : w.heap[b]? = some (.cells cB tB (0, 0))) (hk : 0 < cB.size) :
    (callFunc 54 #[.slice (some ⟨a, oa, none⟩) la ca, .slice (some ⟨b, ob, none⟩) lb cb]).run Try.prog w = .ok (.value (.bool false)) w := by
  rw [run_callFunc_extern Try.func54 (by kernel_rfl) (by kernel_rfl) (by kernel_rfl) (e := Extern.SlicesOverlaps.overlaps #[kdNd.S, kdNd.S] #[ /-t-/4]) (by kernel_rfl),
    overlaps_no w kdNd.S kdNd.T /-t-/4 kdNd_ok.un 1 (by kernel_rfl) a b oa ob la ca lb cb hne cA cB tA tB hA hB hk]
  rfl
def Repl (w : World) (s : Value) (i j : Nat) (b m : Nat) (Q : Ending → World → Prop) : Prop :=
  Calls Try.prog 48 #[s, .int .i64 (i : Int), .int .i64 (j : Int), .slice (some ⟨b, 0, none⟩) m m] w Q
set_option maxHeartbeats 1600000 in
set_option maxRecDepth 100000 in
theorem repl2_end (w0 w : World) (g cap : Nat) (A : List Nat) (m l r : Nat) (R : List Value) (b : Nat) (h : FlG kdNd w0 w g cap (A ++ [m]) R) (hx : w.heap[b]? = some (.cells (flC kdNd [l, r]).toArray kdNd.T (0, 0))) (hn : A.length ≤ 1000) (hw : w0.heap.size ≤ w.heap.size) :
    Repl w (.slice (some ⟨g, 0, none⟩) (A.length + 1) cap) A.length (A.length + 1) b 2 (InsP kdNd w0 w (.slice (some ⟨g, 0, none⟩) (A.length + 1) cap) (A ++ [l, r])) := by
  have hM : FlV kdNd w (some ⟨b, 0, none⟩) 2 [l, r] := flv_blk kdNd_ok (R := []) (by rw [List.append_nil]; exact hx) (by simp) (by simp)
  have hle := h.le
  rw [List.length_append] at hle
  obtain ⟨v', w', hr, h2, h3, h4⟩ := (h.front.own kdNd_ok).appV kdNd_ok 58 _ _ hM (by simp; omega) hw
  have HE : Hid (InsP kdNd w0 w (.slice (some ⟨g, 0, none⟩) (A.length + 1) cap) (A ++ [l, r]) (.returned v') w') := Lib.hid ⟨_, rfl, h2, h3, h4.imp id fun q i e => by rw [q] at e; injection e with e; exact Nat.le_of_eq e⟩
  obtain ⟨A', C', rfl⟩ := h2.len
  have hl2 : (A ++ [l, r]).length = A.length + 2 := by simp
  rw [hl2] at hr HE
  obtain ⟨i, hi⟩ : ∃ i, i = A.length := ⟨_, rfl⟩
  obtain ⟨n, hnn⟩ : ∃ n, n = i + 1 := ⟨_, rfl⟩
  obtain ⟨n2, hn2⟩ : ∃ n, n = i + 2 := ⟨_, rfl⟩
  rw [← hi] at HE hr ⊢
  rw [← hn2] at HE hr
  rw [← hnn] at HE ⊢
  have i0 : (0 : Int) ≤ (i : Int) := Int.natCast_nonneg _
  have n0 : (i : Int) < (n : Int) := by omega
  have n1 : (n : Int) ≤ 1001 := by omega
  have n3 : ¬ (n2 : Int) < (n : Int) := by omega
  have c1 : (n : Int) ≤ (cap : Int) := by rw [hnn, hi]; simp at hle; omega
  have c2 : (cap : Int) ≤ 9223372036854775807 := by have := h.max; unfold maxLen at this; omega
  have c3 : (i : Int) ≤ (cap : Int) := by omega
  have HR := Lib.hid hr
  clear hr h h2 h3 h4 hM hx hi hnn hn2 hn hle hl2
  unfold Repl
  go_enter Try.func48, Try.ntmps48
  go_wp2_with (at_builtin; refine wpList_appF 58 _ rfl (.tmp 32) (.tmp 33) rfl rfl _ _ _ w' rfl rfl (by exact HR.out) ?_)
  all_goals (go_ret; exact HE.out)
#print axioms repl2_end
set_option maxHeartbeats 1600000 in
set_option maxRecDepth 100000 in
theorem repl2_shift (w0 w : World) (g cap : Nat) (A B : List Nat) (m l r : Nat) (R : List Value) (b : Nat) (h : FlG kdNd w0 w g cap (A ++ m :: B) R) (hx : w.heap[b]? = some (.cells (flC kdNd [l, r]).toArray kdNd.T (0, 0))) (hb : b ≠ g) (hB : 0 < B.length) (hc : A.length + B.length + 2 ≤ cap) (hn : A.length + B.length ≤ 1000) :
    Repl w (.slice (some ⟨g, 0, none⟩) (A.length + B.length + 1) cap) A.length (A.length + 1) b 2 (InsP kdNd w0 w (.slice (some ⟨g, 0, none⟩) (A.length + B.length + 1) cap) (A ++ l :: r :: B)) := by
  have eA : A ++ m :: B = (A ++ [m]) ++ B := by rw [List.append_assoc]; rfl
  rw [eA] at h
  obtain ⟨U, Z, hU, hlen, hcp1⟩ := run_shift kdNd_ok h (by rw [List.length_append]; simp; omega)
  obtain ⟨W1, hW1⟩ : ∃ W1, W1 = w.drew.drew.setRow g (flC kdNd (A ++ [m]) ++ (U ++ (flC kdNd B ++ Z))).toArray := ⟨_, rfl⟩
  have hB1 : W1.heap[g]? = some (.cells (flC kdNd A ++ ((flC kdNd [m] ++ U) ++ (flC kdNd B ++ Z))).toArray kdNd.T (0, 0)) := by
    rw [hW1, show flC kdNd A ++ ((flC kdNd [m] ++ U) ++ (flC kdNd B ++ Z)) = flC kdNd (A ++ [m]) ++ (U ++ (flC kdNd B ++ Z)) by rw [flC_app]; simp only [List.append_assoc]]
    exact setRow_heap w.drew.drew g _ _ _ _ h.blk
  have hbb : W1.heap[b]? = some (.cells (flC kdNd [l, r]).toArray kdNd.T (0, 0)) := by rw [hW1, setRow_other w.drew.drew g b _ hb]; exact hx
  have hcp2 := run_over kdNd_ok hB1 [l, r] (by rw [List.length_append, hU]; rfl) ⟨b, 0, none⟩ (src_flv kdNd_ok (flv_blk kdNd_ok (C := 2) (R := []) (M := [l, r]) hbb (by simp) (by simp))) W1 rfl
  obtain ⟨W2, hW2⟩ : ∃ W2, W2 = W1.setRow g (flC kdNd (A ++ [l, r]) ++ (flC kdNd B ++ Z)).toArray := ⟨_, rfl⟩
  have hcp1 := hcp1 w.drew.drew rfl
  rw [← hW1] at hcp1
  rw [← hW2] at hcp2
  have HE : Hid (InsP kdNd w0 w (.slice (some ⟨g, 0, none⟩) (A.length + B.length + 1) cap) (A ++ l :: r :: B) (.returned (.slice (some ⟨g, 0, none⟩) (A.length + B.length + 2) cap)) W2) := Lib.hid (by
    have e2 : flC kdNd (A ++ [l, r]) ++ (flC kdNd B ++ Z) = flC kdNd (A ++ l :: r :: B) ++ Z := by rw [← List.append_assoc, ← flC_app, List.append_assoc]; rfl
    have hl2 : (A ++ l :: r :: B).length = A.length + B.length + 2 := by simp only [List.length_append, List.length_cons]; omega
    have o := FlG.own kdNd_ok (⟨h.lo, by rw [hW2, e2]; exact setRow_heap W1 g _ _ _ _ hB1, by rw [hl2]; exact hc, h.max, by
      rw [← e2, ← h.len, ← hlen]
      have := hU
      simp only [List.length_append, flC_app, show (flC kdNd [l, r]).length = 2 from rfl, show (flC kdNd [m]).length = 1 from rfl, show kdNd.k = 1 from rfl] at this ⊢
      omega⟩ : FlG kdNd w0 W2 g cap (A ++ l :: r :: B) Z)
    rw [hl2] at o
    refine ⟨_, rfl, o, ?_, Or.inl rfl⟩
    rw [hW2, hW1]
    exact (((Ch.refl (fun i => some g = some i) w).drew.drew).setRow (g := g) (Or.inl rfl) _).setRow (g := g) (Or.inl rfl) _)
  have hov := fun oa ob la ca lb cb => overNd w.drew g b oa ob la ca lb cb (Ne.symm hb) _ _ _ _ h.blk hx (show 0 < 2 by omega)
  obtain ⟨i, hi⟩ : ∃ i, i = A.length := ⟨_, rfl⟩
  obtain ⟨j, hj⟩ : ∃ j, j = A.length + 1 := ⟨_, rfl⟩
  obtain ⟨n, hnn⟩ : ∃ n, n = A.length + B.length + 1 := ⟨_, rfl⟩
  obtain ⟨t, ht⟩ : ∃ t, t = A.length + B.length + 2 := ⟨_, rfl⟩
  obtain ⟨bl, hbl⟩ : ∃ bl, bl = B.length := ⟨_, rfl⟩
  have hc1 : ∀ ty, (Builtin.copy_ #[58, 58] ty #[.slice (some ⟨g, i + 2, none⟩) (t - (i + 2)) (cap - (i + 2)), .slice (some ⟨g, j, none⟩) (n - j) (cap - j)]).run Try.prog w.drew.drew = .ok (.int .i64 (bl : Int)) W1 := fun ty => by
    rw [hbl]
    exact hcp1 ty _ _ _ _ _ _ (by rw [hi, List.length_append]; simp [kdNd]) (by rw [hj, List.length_append]; simp [kdNd]) (by simp only [Nat.min_def]; split <;> omega)
  have hc2 : ∀ ty, (Builtin.copy_ #[58, 58] ty #[.slice (some ⟨g, i, none⟩) (t - i) (cap - i), .slice (some ⟨b, 0, none⟩) 2 2]).run Try.prog W1 = .ok (.int .i64 2) W2 := fun ty =>
    hcp2 ty _ _ _ _ _ (by rw [hi]; simp [kdNd]) (by simp only [Nat.min_def]; split <;> simp <;> omega)
  have HT : Hid ((i : Int) + 2 + ((n - j : Nat) : Int) = (t : Int)) := Lib.hid (by omega)
  have i0 : (0 : Int) ≤ (i : Int) := Int.natCast_nonneg _
  have j0 : (i : Int) < (j : Int) := by omega
  have n0 : (j : Int) < (n : Int) := by omega
  have n1 : (n : Int) ≤ 1001 := by omega
  have t0 : (i : Int) + 2 ≤ (t : Int) := by omega
  have t1 : (t : Int) ≤ (cap : Int) := by omega
  have t2 : (i : Int) ≤ (t : Int) := by omega
  have c1 : (n : Int) + 1 ≤ (cap : Int) := by omega
  have c2 : (cap : Int) ≤ 9223372036854775807 := by have := h.max; unfold maxLen at this; omega
  rw [← hnn, ← ht] at HE
  rw [← hnn, ← hj, ← hi]
  have hw2 : IntKind.i64.wrap ((i : Int) + 2) = (i : Int) + 2 := by rw [IntKind.wrap_i64]; omega
  have htn2 : ((i : Int) + 2).toNat = i + 2 := by omega
  have b2 : (0 : Int) ≤ (i : Int) + 2 := by omega
  have b3 : (i : Int) ≤ (cap : Int) := by omega
  have b5 : ¬ (cap = i) := by omega
  have b6 : ¬ (cap = j) := by omega
  have b7 : ¬ (cap = i + 2) := by omega
  have b8 : ¬ ((i : Int) + 2 ≤ (j : Int)) := by omega
  have HOV := Lib.hid hov
  have HC1 := Lib.hid hc1
  have HC2 := Lib.hid hc2
  clear hov hc1 hc2 h hx hB hc hn eA hU hlen hcp1 hcp2 hW1 hB1 hbb hW2 hi hnn ht hbl hj
  unfold Repl
  go_enter Try.func48, Try.ntmps48
  go_wp2_with fail
  go_region
  rw [HT.out]
  have hov := HOV.out
  go_wp2_with (simp only [hov])
  clear hov
  have hc1 := HC1.out
  go_region
  clear hc1
  have hc2 := HC2.out
  go_wp2_with (at_builtin; refine copy_op rfl (.tmp 133) (.tmp 134) 58 58 rfl _ _ rfl rfl (hc2 _) ?_)
  go_ret
  exact HE.out
#print axioms repl2_shift
set_option maxHeartbeats 1600000 in
set_option maxRecDepth 100000 in
theorem repl2_grow (w0 w : World) (g cap : Nat) (A B : List Nat) (m l r : Nat) (R : List Value) (b : Nat) (h : FlG kdNd w0 w g cap (A ++ m :: B) R) (hx : w.heap[b]? = some (.cells (flC kdNd [l, r]).toArray kdNd.T (0, 0))) (hB : 0 < B.length) (hc : cap < A.length + B.length + 2) (hn : A.length + B.length ≤ 1000) (hw : w0.heap.size ≤ w.heap.size) :
    Repl w (.slice (some ⟨g, 0, none⟩) (A.length + B.length + 1) cap) A.length (A.length + 1) b 2 (InsP kdNd w0 w (.slice (some ⟨g, 0, none⟩) (A.length + B.length + 1) cap) (A ++ l :: r :: B)) := by
  have hle := h.le
  rw [List.length_append, List.length_cons] at hle
  have k1 : kdNd.k = 1 := rfl
  have hA := flC_len kdNd_ok A
  have hBl := flC_len kdNd_ok B
  rw [k1] at hA hBl
  have hbg : w.drew.heap[g]? = some (.cells (flC kdNd (A ++ [m]) ++ (flC kdNd B ++ R)).toArray kdNd.T (0, 0)) := by
    rw [show flC kdNd (A ++ [m]) ++ (flC kdNd B ++ R) = flC kdNd (A ++ m :: B) ++ R by rw [← List.append_assoc, ← flC_app, List.append_assoc]; rfl]
    exact h.blk
  have hbA : w.drew.heap[g]? = some (.cells ([] ++ (flC kdNd A ++ (flC kdNd [m] ++ (flC kdNd B ++ R)))).toArray kdNd.T (0, 0)) := by
    rw [show [] ++ (flC kdNd A ++ (flC kdNd [m] ++ (flC kdNd B ++ R))) = flC kdNd (A ++ [m]) ++ (flC kdNd B ++ R) by rw [flC_app, List.append_assoc]; rfl]
    exact hbg
  obtain ⟨mm, hm⟩ : ∃ m, m = B.length + 2 := ⟨_, rfl⟩
  obtain ⟨c2, R2, w1, hr, hch, hb1, hl1, hc2, hm2⟩ := run_growF kdNd_ok w.drew 58 /-t-/3 (by kernel_rfl) ⟨g, 0, none⟩ A.length cap mm (flC kdNd A) (by rw [hA, k1]) (src_blk (X := []) hbA rfl) (by omega) (by omega) (by omega)
  rw [k1, List.length_append] at hl1
  obtain ⟨U, T, eU, hU⟩ := list_cut R2 2 (by omega)
  obtain ⟨Y, Z, eY, hY⟩ := list_cut T (flC kdNd B).length (by
    have := congrArg List.length eU
    rw [List.length_append] at this
    omega)
  subst eU
  subst eY
  have hlt := blk_lt hx
  have hltg : g < w.heap.size := blk_lt h.blk
  have hbb : w1.heap[b]? = some (.cells (flC kdNd [l, r]).toArray kdNd.T (0, 0)) := (hch.block _ hlt (fun f => f)).trans hx
  have hcp2 := run_over kdNd_ok hb1 [l, r] (by rw [hU]; rfl) ⟨b, 0, none⟩ (src_flv kdNd_ok (flv_blk kdNd_ok (C := 2) (R := []) (M := [l, r]) hbb (by simp) (by simp))) w1 rfl
  obtain ⟨q, hq⟩ : ∃ q, q = w.drew.heap.size := ⟨_, rfl⟩
  have hq' : q = w.heap.size := hq
  rw [← hq] at hcp2 hr hb1
  obtain ⟨W2, hW2⟩ : ∃ W2, W2 = w1.setRow q (flC kdNd (A ++ [l, r]) ++ (Y ++ Z)).toArray := ⟨_, rfl⟩
  rw [← hW2] at hcp2
  have hB2 : W2.heap[q]? = some (.cells (flC kdNd (A ++ [l, r]) ++ (Y ++ Z)).toArray kdNd.T (0, 0)) := by rw [hW2]; exact setRow_heap w1 _ _ _ _ _ hb1
  have hg2 : W2.heap[g]? = some (.cells (flC kdNd (A ++ [m]) ++ (flC kdNd B ++ R)).toArray kdNd.T (0, 0)) := by
    rw [hW2, setRow_other w1 _ g _ (by omega)]
    exact (hch.block _ hltg (fun f => f)).trans hbg
  have hcp3 := run_over kdNd_ok hB2 B (by rw [hY, hBl, k1]) ⟨g, A.length + 1, none⟩ (src_blk hg2 (by rw [flC_len kdNd_ok, List.length_append, k1]; simp)) W2.drew rfl
  obtain ⟨W3, hW3⟩ : ∃ W3, W3 = W2.drew.setRow q (flC kdNd (A ++ [l, r] ++ B) ++ Z).toArray := ⟨_, rfl⟩
  rw [← hW3] at hcp3
  have HE : Hid (InsP kdNd w0 w (.slice (some ⟨g, 0, none⟩) (A.length + B.length + 1) cap) (A ++ l :: r :: B) (.returned (.slice (some ⟨q, 0, none⟩) (A.length + mm) c2)) W3) := Lib.hid (by
    have e2 : A ++ [l, r] ++ B = A ++ l :: r :: B := by rw [List.append_assoc]; rfl
    have hl2 : (A ++ l :: r :: B).length = A.length + mm := by simp only [List.length_append, List.length_cons]; omega
    have o := FlG.own kdNd_ok (⟨by rw [hq']; exact hw, by rw [hW3, e2]; exact setRow_heap W2.drew _ _ _ _ _ hB2, by rw [hl2]; exact hc2, hm2, by
      simp only [List.length_append, flC_app, show (flC kdNd (l :: r :: B)).length = 2 + (flC kdNd B).length from by rw [flC_len kdNd_ok, hBl, List.length_cons, List.length_cons, k1]; omega, k1] at hl1 ⊢
      omega⟩ : FlG kdNd w0 W3 q c2 (A ++ l :: r :: B) Z)
    rw [hl2] at o
    refine ⟨_, rfl, o, ?_, Or.inr fun i e => by injection e with e; rw [← e]; exact Nat.le_of_eq hq'.symm⟩
    have hch' : Ch (fun i => some g = some i) w w1 := (((Ch.refl (fun _ => False) w).drew).trans hch).mono (fun _ _ f => f.elim)
    rw [hW3, hW2]
    exact ((hch'.setRow (g := q) (Or.inr (Nat.le_of_eq hq'.symm)) _).drew).setRow (g := q) (Or.inr (Nat.le_of_eq hq'.symm)) _)
  obtain ⟨i, hi⟩ : ∃ i, i = A.length := ⟨_, rfl⟩
  obtain ⟨j, hj⟩ : ∃ j, j = A.length + 1 := ⟨_, rfl⟩
  obtain ⟨n, hnn⟩ : ∃ n, n = A.length + B.length + 1 := ⟨_, rfl⟩
  obtain ⟨t, ht⟩ : ∃ t, t = A.length + mm := ⟨_, rfl⟩
  obtain ⟨bl, hbl⟩ : ∃ bl, bl = B.length := ⟨_, rfl⟩
  have hr1 : ∀ ty, (Builtin.append_ #[58, /-t-/3] ty #[.slice (some ⟨g, 0, none⟩) i cap, .int .i64 (mm : Int)]).run Try.prog w.drew = .ok (.slice (some ⟨q, 0, none⟩) t c2) w1 := fun ty => by rw [hi, ht]; exact hr
  have hc1 : ∀ ty, (Builtin.copy_ #[58, 58] ty #[.slice (some ⟨q, i, none⟩) (t - i) (c2 - i), .slice (some ⟨b, 0, none⟩) 2 2]).run Try.prog w1 = .ok (.int .i64 2) W2 := fun ty =>
    hcp2 ty _ _ _ _ _ (by rw [hi]; simp [kdNd]) (by simp only [Nat.min_def]; split <;> simp <;> omega)
  have hc3 : ∀ ty, (Builtin.copy_ #[58, 58] ty #[.slice (some ⟨q, i + 2, none⟩) (t - (i + 2)) (c2 - (i + 2)), .slice (some ⟨g, j, none⟩) (n - j) (cap - j)]).run Try.prog W2.drew = .ok (.int .i64 (bl : Int)) W3 := fun ty => by
    rw [hbl, hj]
    exact hcp3 ty _ _ _ _ _ (by rw [hi, List.length_append]; simp [kdNd]) (by simp only [Nat.min_def]; split <;> omega)
  have HT : Hid ((i : Int) + 2 + ((n - j : Nat) : Int) = (t : Int)) := Lib.hid (by omega)
  have HT2 : Hid (IntKind.i64.wrap ((t : Int) - (i : Int)) = (mm : Int)) := Lib.hid (by rw [IntKind.wrap_i64]; omega)
  have i0 : (0 : Int) ≤ (i : Int) := Int.natCast_nonneg _
  have j0 : (i : Int) < (j : Int) := by omega
  have n0 : (j : Int) < (n : Int) := by omega
  have n1 : (n : Int) ≤ 1001 := by omega
  have t0 : (i : Int) + 2 ≤ (t : Int) := by omega
  have t1 : (t : Int) ≤ (c2 : Int) := by omega
  have t2 : (i : Int) ≤ (t : Int) := by omega
  have t3 : ((cap : Nat) : Int) < (t : Int) := by omega
  have c1 : (n : Int) ≤ (cap : Int) := by omega
  have c5 : (c2 : Int) ≤ 9223372036854775807 := by unfold maxLen at hm2; omega
  rw [← hnn, ← ht] at HE
  rw [← hnn, ← hj, ← hi]
  have hw2 : IntKind.i64.wrap ((i : Int) + 2) = (i : Int) + 2 := by rw [IntKind.wrap_i64]; omega
  have htn2 : ((i : Int) + 2).toNat = i + 2 := by omega
  have b2 : (0 : Int) ≤ (i : Int) + 2 := by omega
  have b3 : (i : Int) ≤ (cap : Int) := by omega
  have b4 : (t : Int) - (i : Int) = (mm : Int) := by omega
  have b5 : ¬ (cap = i) := by omega
  have b6 : ¬ (cap = j) := by omega
  have b7 : ¬ (c2 = i + 2) := by omega
  have b8 : ¬ (c2 = i) := by omega
  have HB4 := Lib.hid b4
  have HR := Lib.hid hr1
  have HC1 := Lib.hid hc1
  have HC3 := Lib.hid hc3
  clear b4 hr1 hc1 hc3 h hx hB hc hn hU hl1 hcp2 hcp3 hr hb1 hch hbb hW2 hW3 hB2 hg2 hi hnn ht hbl hj hY hlt hltg hbg hbA hA hBl hc2 hm2 hq hq' hm hle hw
  unfold Repl
  go_enter Try.func48, Try.ntmps48
  go_wp2_with fail
  go_region
  rw [HT.out]
  have b4 := HB4.out
  have hc1 := HC1.out
  go_wp2_with (first
    | (at_builtin; refine Lib.wpList_append_run _ rfl (.tmp 63) (.tmp 66) 58 /-t-/3 rfl _ _ rfl rfl _ w1 (by exact HR.out _) ?_)
    | (at_builtin; refine copy_op rfl (.tmp 70) (.tmp 71) 58 58 rfl _ _ rfl rfl (hc1 _) ?_)
    | fail)
  clear hc1
  have hc3 := HC3.out
  go_region
  go_wp2
  go_ret
  exact HE.out
#print axioms repl2_grow
end Go.Proofs.Ytkpgaejmhddkdaa
