/-
  slices.Insert of pairs, walked.
-/
import Derived.Test.YtkpahhioiefcbaaMb14
import Derived.Deep.RegionLaw
import Derived.Laws.Externs
namespace Go.Proofs.Ytkpahhioiefcbaa
open Go.RowKit
set_option linter.unusedVariables false
set_option maxRecDepth 100000
set_option linter.unusedSimpArgs false

/-- What an insertion answers. -/
def InsP {α : Type} (K : Kf α) (w0 w : World) (v : Value) (L : List α) (e : Ending) (w' : World) : Prop :=
  ∃ v', e = .returned v' ∧ FlO K w0 w' v' L ∧ Ch (fun i => v.ownBlock = some i) w w' ∧ (v'.ownBlock = v.ownBlock ∨ ∀ i, v'.ownBlock = some i → w.heap.size ≤ i)
theorem overPr (w : World) (a b oa ob la ca lb cb : Nat) (hne : a ≠ b) (cA cB : Array Value) (tA tB : TypeId) (hA : w.heap[a]? = some (.cells cA tA (0, 0))) (hB : w.heap[b]? = some (.cells cB tB (0, 0))) (hk : 0 < cB.size) :
    (callFunc 68 #[.slice (some ⟨a, oa, none⟩) la ca, .slice (some ⟨b, ob, none⟩) lb cb]).run Try.prog w = .ok (.value (.bool false)) w := by
  rw [run_callFunc_extern Try.func68 (by kernel_rfl) (by kernel_rfl) (by kernel_rfl) (e := Extern.SlicesOverlaps.overlaps #[kdPr.S, kdPr.S] #[ /-t-/4]) (by kernel_rfl),
    overlaps_no w kdPr.S kdPr.T /-t-/4 kdPr_ok.un 2 (by kernel_rfl) a b oa ob la ca lb cb hne cA cB tA tB hA hB hk]
  rfl
theorem goInt1 (n : Nat) : goInt n = .int .i64 (n : Int) := rfl
set_option maxHeartbeats 1600000 in
set_option maxRecDepth 100000 in
theorem insert_shift (w0 w : World) (g cap : Nat) (A B : List Kv) (x : Kv) (R : List Value) (b : Nat) (h : FlG kdPr w0 w g cap (A ++ B) R) (hx : w.heap[b]? = some (.cells (kdPr.f x).toArray kdPr.T (0, 0))) (hb : b ≠ g) (hB : 0 < B.length) (hc : A.length + B.length + 1 ≤ cap) (hn : A.length + B.length ≤ 1000) :
    Calls Try.prog 58 #[.slice (some ⟨g, 0, none⟩) (A.length + B.length) cap, .int .i64 (A.length : Int), .slice (some ⟨b, 0, none⟩) 1 1] w (InsP kdPr w0 w (.slice (some ⟨g, 0, none⟩) (A.length + B.length) cap) (A ++ x :: B)) := by
  obtain ⟨U, Z, hU, hlen, hcp1⟩ := run_shift kdPr_ok h hc
  obtain ⟨W1, hW1⟩ : ∃ W1, W1 = w.drew.setRow g (flC kdPr A ++ (U ++ (flC kdPr B ++ Z))).toArray := ⟨_, rfl⟩
  have hB1 : W1.heap[g]? = some (.cells (flC kdPr A ++ (U ++ (flC kdPr B ++ Z))).toArray kdPr.T (0, 0)) := by rw [hW1]; exact setRow_heap w.drew g _ _ _ _ h.blk
  have hbb : W1.heap[b]? = some (.cells (kdPr.f x).toArray kdPr.T (0, 0)) := by rw [hW1, setRow_other w.drew g b _ hb]; exact hx
  have hcp2 := run_over kdPr_ok hB1 [x] (by rw [hU]; rfl) ⟨b, 0, none⟩ (fun j u hj => by
    rw [add_pl, Nat.zero_add, blk_cell hbb, List.getElem?_toArray]
    rw [show flC kdPr [x] = kdPr.f x from List.append_nil _] at hj
    exact hj) W1 rfl
  obtain ⟨W2, hW2⟩ : ∃ W2, W2 = W1.setRow g (flC kdPr (A ++ [x]) ++ (flC kdPr B ++ Z)).toArray := ⟨_, rfl⟩
  have hcp1 := hcp1 w.drew rfl
  rw [← hW1] at hcp1
  rw [← hW2] at hcp2
  have HE : Hid (InsP kdPr w0 w (.slice (some ⟨g, 0, none⟩) (A.length + B.length) cap) (A ++ x :: B) (.returned (.slice (some ⟨g, 0, none⟩) (A.length + B.length + 1) cap)) W2) := Lib.hid (by
    have e2 : flC kdPr (A ++ [x]) ++ (flC kdPr B ++ Z) = flC kdPr (A ++ x :: B) ++ Z := by rw [← List.append_assoc, ← flC_app, List.append_assoc]; rfl
    have hl2 : (A ++ x :: B).length = A.length + B.length + 1 := by simp only [List.length_append, List.length_cons]; omega
    have o := FlG.own kdPr_ok (⟨h.lo, by rw [hW2, e2]; exact setRow_heap W1 g _ _ _ _ hB1, by rw [hl2]; exact hc, h.max, by
      rw [← e2, ← h.len, ← hlen]
      have := hU
      simp only [List.length_append, flC_app, show (flC kdPr [x]).length = 2 from rfl, show kdPr.k = 2 from rfl] at this ⊢
      omega⟩ : FlG kdPr w0 W2 g cap (A ++ x :: B) Z)
    rw [hl2] at o
    refine ⟨_, rfl, o, ?_, Or.inl rfl⟩
    rw [hW2, hW1]
    exact (((Ch.refl (fun i => some g = some i) w).drew).setRow (g := g) (Or.inl rfl) _).setRow (g := g) (Or.inl rfl) _)
  have hov := fun oa ob la ca lb cb => overPr w b g oa ob la ca lb cb hb _ _ _ _ hx h.blk (by
    have := h.len
    have h2 := h.le
    rw [List.length_append] at h2
    rw [List.size_toArray, this]
    show 0 < cap * 2
    omega)
  obtain ⟨i, hi⟩ : ∃ i, i = A.length := ⟨_, rfl⟩
  obtain ⟨m, hmm⟩ : ∃ m, m = B.length := ⟨_, rfl⟩
  obtain ⟨n, hnn⟩ : ∃ n, n = A.length + B.length := ⟨_, rfl⟩
  rw [← hnn] at HE ⊢
  rw [← hi] at ⊢
  have HI := Lib.hid (And.intro hi (And.intro hnn hmm))
  have i0 : (0 : Int) ≤ (i : Int) := Int.natCast_nonneg _
  have n0 : (i : Int) < (n : Int) := by omega
  have n1 : (n : Int) ≤ 1000 := by omega
  have c1 : (n : Int) + 1 ≤ (cap : Int) := by omega
  have c2 : (cap : Int) ≤ 9223372036854775807 := by have := h.max; unfold maxLen at this; omega
  have hw1 : IntKind.i64.wrap ((i : Int) + 1) = (i : Int) + 1 := by rw [IntKind.wrap_i64]; omega
  have hb1 : (0 : Int) ≤ (i : Int) + 1 := by omega
  have htn : ((i : Int) + 1).toNat = i + 1 := by omega
  have hb2 : ¬ (cap = i + 1) := by omega
  have hb3 : (i : Int) ≤ (n : Int) + 1 := by omega
  have hb4 : ¬ (cap = i) := by omega
  have hb5 : (i : Int) + 1 ≤ (n : Int) + 1 := by omega
  have hc1 : ∀ ty, (Builtin.copy_ #[86, 86] ty #[.slice (some ⟨g, (i + 1) * 2, none⟩) (n - i) (cap - (i + 1)), .slice (some ⟨g, i * 2, none⟩) (n + 1 - i) (cap - i)]).run Try.prog w.drew = .ok (.int .i64 (m : Int)) W1 := fun ty => by
    rw [hmm]
    exact hcp1 ty _ _ _ _ _ _ (by rw [hi]; rfl) (by rw [hi]; rfl) (by simp only [Nat.min_def]; split <;> omega)
  have hc2 : ∀ ty, (Builtin.copy_ #[86, 86] ty #[.slice (some ⟨g, i * 2, none⟩) (n + 1 - i) (cap - i), .slice (some ⟨b, 0, none⟩) 1 1]).run Try.prog W1 = .ok (.int .i64 1) W2 := fun ty => by
    exact hcp2 ty _ _ _ _ _ (by rw [hi]; rfl) (by simp only [Nat.min_def]; split <;> simp <;> omega)
  clear hB1 h hi hnn hc hn hB hcp1 hcp2 hW1 hW2 hbb hlen hU hx hmm
  go_enter Try.func58, Try.ntmps58
  go_wp2_with (simp only [hov])
  clear hov
  go_region
  clear hc1
  go_wp2_with (at_builtin; refine copy_op rfl _ _ 86 86 rfl _ _ rfl rfl (hc2 _) ?_)
  go_ret
  exact HE.out
#print axioms insert_shift
set_option maxHeartbeats 1600000 in
set_option maxRecDepth 100000 in
theorem insert_end (w0 w : World) (v : Value) (A : List Kv) (x : Kv) (b : Nat) (h : FlO kdPr w0 w v A) (hx : w.heap[b]? = some (.cells (kdPr.f x).toArray kdPr.T (0, 0))) (hn : A.length ≤ 1000) (hw : w0.heap.size ≤ w.heap.size) :
    Calls Try.prog 58 #[v, .int .i64 (A.length : Int), .slice (some ⟨b, 0, none⟩) 1 1] w (InsP kdPr w0 w v (A ++ [x])) := by
  have hM : FlV kdPr w (some ⟨b, 0, none⟩) 1 [x] := flv_blk kdPr_ok (R := []) (M := [x]) hx (by simp) (by simp)
  obtain ⟨v', w', hr, h2, h3, h4⟩ := h.appV kdPr_ok 86 _ _ hM (by simp; omega) hw
  have HE : Hid (InsP kdPr w0 w v (A ++ [x]) (.returned v') w') := Lib.hid ⟨_, rfl, h2, h3, h4.imp id fun q i e => by rw [q] at e; injection e with e; exact Nat.le_of_eq e⟩
  have hf : ∃ A0 C, v = .slice A0 A.length C ∧ A.length ≤ C ∧ C ≤ maxLen ∧ (A0 = none → C = 0) ∧ ∀ a, A0 = some a → a = ⟨a.block, 0, none⟩ := by
    rcases h.2 with ⟨rfl, h0⟩ | ⟨g, cap, cur, rfl, _, _, hc, hm, _⟩
    · exact ⟨none, 0, by rw [h0], Nat.le_of_eq h0, Nat.zero_le _, fun _ => rfl, fun a e => by cases e⟩
    · exact ⟨_, _, rfl, hc, hm, fun e => (by cases e), fun a e => (by injection e with e; rw [← e])⟩
  obtain ⟨A0, C, rfl, hC, hm, hz, hs⟩ := hf
  obtain ⟨n, hnn⟩ : ∃ n, n = A.length := ⟨_, rfl⟩
  rw [← hnn] at HE hr hC hn ⊢
  have n0 : (0 : Int) ≤ (n : Int) := Int.natCast_nonneg _
  have n1 : (n : Int) ≤ 1000 := by omega
  have c1 : (n : Int) ≤ (C : Int) := by omega
  have c2 : (C : Int) ≤ 9223372036854775807 := by unfold maxLen at hm; omega
  have HR := Lib.hid hr
  clear hr h h2 h3 h4 hM hx hm hC hnn hn
  cases A0 with
  | none =>
    obtain rfl := hz rfl
    have e0 : n = 0 := by omega
    subst e0
    clear hz hs
    go_enter Try.func58, Try.ntmps58
    go_wp2_with (at_builtin; refine wpList_appF 86 _ rfl (.tmp 23) (.tmp 24) rfl rfl _ _ v' w' rfl rfl (by exact HR.out) ?_)
    all_goals (go_ret; exact HE.out)
  | some a =>
    have ea := hs a rfl
    obtain ⟨g, o, sp⟩ := a
    injection ea with _ e1 e2
    subst e1 e2
    clear hz hs
    go_enter Try.func58, Try.ntmps58
    go_wp2_with (at_builtin; refine wpList_appF 86 _ rfl (.tmp 23) (.tmp 24) rfl rfl _ _ v' w' rfl rfl (by exact HR.out) ?_)
    all_goals (go_ret; exact HE.out)
#print axioms insert_end
set_option maxHeartbeats 1600000 in
set_option maxRecDepth 100000 in
theorem insert_grow (w0 w : World) (g cap : Nat) (A B : List Kv) (x : Kv) (R : List Value) (b : Nat) (h : FlG kdPr w0 w g cap (A ++ B) R) (hx : w.heap[b]? = some (.cells (kdPr.f x).toArray kdPr.T (0, 0))) (hB : 0 < B.length) (hc : cap < A.length + B.length + 1) (hn : A.length + B.length ≤ 1000) (hw : w0.heap.size ≤ w.heap.size) :
    Calls Try.prog 58 #[.slice (some ⟨g, 0, none⟩) (A.length + B.length) cap, .int .i64 (A.length : Int), .slice (some ⟨b, 0, none⟩) 1 1] w (InsP kdPr w0 w (.slice (some ⟨g, 0, none⟩) (A.length + B.length) cap) (A ++ x :: B)) := by
  have hle := h.le
  rw [List.length_append] at hle
  have hbg : w.heap[g]? = some (.cells (flC kdPr A ++ (flC kdPr B ++ R)).toArray kdPr.T (0, 0)) := by rw [← List.append_assoc, ← flC_app]; exact h.blk
  obtain ⟨m, hm⟩ : ∃ m, m = B.length + 1 := ⟨_, rfl⟩
  obtain ⟨c2, R2, w1, hr, hch, hb1, hl1, hc2, hm2⟩ := run_growF kdPr_ok w 86 /-t-/3 (by kernel_rfl) ⟨g, 0, none⟩ A.length cap m (flC kdPr A) (flC_len kdPr_ok A) (src_blk (X := []) (cs := flC kdPr A) hbg rfl) (by omega) (by omega) (by omega)
  have hA := flC_len kdPr_ok A
  have hBl := flC_len kdPr_ok B
  have k2 : kdPr.k = 2 := rfl
  rw [k2] at hA hBl hl1
  rw [List.length_append] at hl1
  obtain ⟨U, T, eU, hU⟩ := list_cut R2 2 (by omega)
  obtain ⟨Y, Z, eY, hY⟩ := list_cut T (flC kdPr B).length (by
    have := congrArg List.length eU
    rw [List.length_append] at this
    omega)
  subst eU
  subst eY
  have hlt := blk_lt hx
  have hltg := blk_lt hbg
  have hbb : w1.heap[b]? = some (.cells (kdPr.f x).toArray kdPr.T (0, 0)) := (hch.block _ hlt (fun f => f)).trans hx
  have hcp2 := run_over kdPr_ok hb1 [x] (by rw [hU]; rfl) ⟨b, 0, none⟩ (src_flv kdPr_ok (flv_blk kdPr_ok (C := 1) (R := []) (M := [x]) hbb (by simp) (by simp))) w1 rfl
  obtain ⟨W2, hW2⟩ : ∃ W2, W2 = w1.setRow w.heap.size (flC kdPr (A ++ [x]) ++ (Y ++ Z)).toArray := ⟨_, rfl⟩
  rw [← hW2] at hcp2
  have hB2 : W2.heap[w.heap.size]? = some (.cells (flC kdPr (A ++ [x]) ++ (Y ++ Z)).toArray kdPr.T (0, 0)) := by rw [hW2]; exact setRow_heap w1 _ _ _ _ _ hb1
  have hg2 : W2.heap[g]? = some (.cells (flC kdPr A ++ (flC kdPr B ++ R)).toArray kdPr.T (0, 0)) := by
    rw [hW2, setRow_other w1 _ g _ (by omega)]
    exact (hch.block _ hltg (fun f => f)).trans hbg
  have hcp3 := run_over kdPr_ok hB2 B (by rw [hY, hBl, k2]) ⟨g, A.length * 2, none⟩ (src_blk hg2 (by rw [hA])) W2.drew rfl
  obtain ⟨W3, hW3⟩ : ∃ W3, W3 = W2.drew.setRow w.heap.size (flC kdPr (A ++ [x] ++ B) ++ Z).toArray := ⟨_, rfl⟩
  rw [← hW3] at hcp3
  obtain ⟨q, hq⟩ : ∃ q, q = w.heap.size := ⟨_, rfl⟩
  have HE : Hid (InsP kdPr w0 w (.slice (some ⟨g, 0, none⟩) (A.length + B.length) cap) (A ++ x :: B) (.returned (.slice (some ⟨q, 0, none⟩) (A.length + m) c2)) W3) := Lib.hid (by
    have e2 : A ++ [x] ++ B = A ++ x :: B := by rw [List.append_assoc]; rfl
    have hl2 : (A ++ x :: B).length = A.length + m := by simp only [List.length_append, List.length_cons]; omega
    have o := FlG.own kdPr_ok (⟨by rw [hq]; exact hw, by rw [hW3, hq, e2]; exact setRow_heap W2.drew _ _ _ _ _ hB2, by rw [hl2]; exact hc2, hm2, by
      simp only [List.length_append, flC_app, show (flC kdPr (x :: B)).length = 2 + (flC kdPr B).length from by rw [flC_len kdPr_ok, hBl, List.length_cons, k2]; omega, k2] at hl1 ⊢
      omega⟩ : FlG kdPr w0 W3 q c2 (A ++ x :: B) Z)
    rw [hl2] at o
    refine ⟨_, rfl, o, ?_, Or.inr fun i e => by injection e with e; rw [← e]; exact Nat.le_of_eq hq.symm⟩
    rw [hW3, hW2]
    exact (((hch.mono (fun _ _ f => f.elim)).setRow (Or.inr (Nat.le_refl _)) _).drew).setRow (Or.inr (Nat.le_refl _)) _)
  obtain ⟨i, hi⟩ : ∃ i, i = A.length := ⟨_, rfl⟩
  obtain ⟨n, hnn⟩ : ∃ n, n = A.length + B.length := ⟨_, rfl⟩
  have i0 : (0 : Int) ≤ (i : Int) := Int.natCast_nonneg _
  have n0 : (i : Int) < (n : Int) := by omega
  have n1 : (n : Int) ≤ 1000 := by omega
  have m0 : (n : Int) + 1 - (i : Int) = (m : Int) := by omega
  have c1 : ((cap : Nat) : Int) < (n : Int) + 1 := by omega
  have c3 : (n : Int) ≤ (cap : Int) := by omega
  have c4 : (i : Int) + (m : Int) ≤ (c2 : Int) := by omega
  have c5 : (c2 : Int) ≤ 9223372036854775807 := by unfold maxLen at hm2; omega
  have c6 : (i : Int) + (m : Int) = (n : Int) + 1 := by omega
  rw [← hnn, ← hi] at HE
  rw [← hi, ← hq] at hr
  rw [← hq] at hcp2 hcp3
  rw [← hnn]
  rw [← hi]
  have hw1 : IntKind.i64.wrap ((i : Int) + 1) = (i : Int) + 1 := by rw [IntKind.wrap_i64]; omega
  have hb1' : (0 : Int) ≤ (i : Int) + 1 := by omega
  have htn : ((i : Int) + 1).toNat = i + 1 := by omega
  have hb2 : ¬ (c2 = i) := by omega
  have hb4 : ¬ (cap = i) := by omega
  have hb5 : (i : Int) + 1 ≤ (i : Int) + (m : Int) := by omega
  have hw2 : IntKind.i64.wrap ((n : Int) + 1 - (i : Int)) = (m : Int) := by rw [IntKind.wrap_i64]; omega
  have hc1 : ∀ ty, (Builtin.copy_ #[86, 86] ty #[.slice (some ⟨q, i * 2, none⟩) m (c2 - i), .slice (some ⟨b, 0, none⟩) 1 1]).run Try.prog w1 = .ok (.int .i64 1) W2 := fun ty =>
    hcp2 ty _ _ _ _ _ (by rw [hi]; rfl) (by simp only [Nat.min_def]; split <;> simp <;> omega)
  have hc3 : ∀ ty, (Builtin.copy_ #[86, 86] ty #[.slice (some ⟨q, (i + 1) * 2, none⟩) (i + m - (i + 1)) (c2 - (i + 1)), .slice (some ⟨g, i * 2, none⟩) (n - i) (cap - i)]).run Try.prog W2.drew = .ok (.int .i64 (B.length : Int)) W3 := fun ty => by
    rw [hi]
    exact hcp3 ty _ _ _ _ _ (by rw [List.length_append]; rfl) (by simp only [Nat.min_def]; split <;> omega)
  have HR := Lib.hid hr
  obtain ⟨bl, hbl⟩ : ∃ bl, bl = B.length := ⟨_, rfl⟩
  rw [← hbl] at hc3
  have hbi : ¬ (c2 = i + 1) := by omega
  clear hr hbl hW3 hW2 hB2 hg2 hcp2 hcp3 hbb hlt hltg hY hU hl1 hb1 hch hbg h hx hB hc hn hw hle hc2 hm2 hA hBl hq hm hnn hi
  go_enter Try.func58, Try.ntmps58
  go_wp2_with (first
    | (at_builtin; refine Lib.wpList_append_run _ rfl (.tmp 34) (.tmp 39) 86 /-t-/3 rfl _ _ rfl rfl _ w1 (by exact HR.out) ?_)
    | (at_builtin; refine copy_op rfl (.tmp 43) (.tmp 44) 86 86 rfl _ _ rfl rfl (hc1 _) ?_)
    | fail)
  go_region
  go_wp2
  go_ret
  exact HE.out
#print axioms insert_grow
/-- slices.Insert of one pair. -/
theorem insert_any (w0 w : World) (v : Value) (A B : List Kv) (x : Kv) (b : Nat) (h : FlO kdPr w0 w v (A ++ B)) (hx : w.heap[b]? = some (.cells (kdPr.f x).toArray kdPr.T (0, 0))) (hb : v.ownBlock ≠ some b) (hn : A.length + B.length ≤ 1000) (hw : w0.heap.size ≤ w.heap.size) :
    Calls Try.prog 58 #[v, .int .i64 (A.length : Int), .slice (some ⟨b, 0, none⟩) 1 1] w (InsP kdPr w0 w v (A ++ x :: B)) := by
  by_cases hB : 0 < B.length
  · rcases h.parts kdPr_ok with ⟨_, e⟩ | ⟨g, cap, R, rfl, hg⟩
    · have := congrArg List.length e
      rw [List.length_append] at this
      simp at this
      rw [this.2] at hB; simp at hB
    · rw [List.length_append]
      by_cases hc : A.length + B.length + 1 ≤ cap
      · exact insert_shift w0 w g cap A B x R b hg hx (fun e => hb (by rw [e]; rfl)) hB hc hn
      · exact insert_grow w0 w g cap A B x R b hg hx hB (by omega) hn hw
  · have : B = [] := List.eq_nil_of_length_eq_zero (by omega)
    subst this
    rw [List.append_nil] at h
    exact insert_end w0 w v A x b h hx (by simp at hn; exact hn) hw
#print axioms insert_any
end Go.Proofs.Ytkpahhioiefcbaa
