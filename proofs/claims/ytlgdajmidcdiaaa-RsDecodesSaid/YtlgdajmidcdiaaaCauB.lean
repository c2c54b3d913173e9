/-
  Which of One's rows and Cauchy's are taken does not matter, as long as each is taken once. No program is named here.
-/
import Derived.Test.YtlgdajmidcdiaaaCau
namespace Go.Proofs.Ytlgdajmidcdiaaa
set_option linter.unusedVariables false

/-- One's rows, and Cauchy's behind them. -/
def allZ (cols r c : Nat) : Nat := if r < cols then oneZ r c else cauZ cols (r - cols) c
theorem allZ_b (cols : Nat) : AllB (allZ cols) := fun r c => by
  unfold allZ; split
  · exact AllB.one r c
  · exact cauZ_lt _ _ _
theorem lsum_filter {p : Nat → Bool} {l : List Nat} {f : Nat → Nat} (h : ∀ b ∈ l, p b = false → f b = 0) : lsum (l.filter p) f = lsum l f := by
  induction l with
  | nil => rfl
  | cons b l ih =>
    have ih' := ih fun c hc => h c (by simp [hc])
    by_cases q : p b = true
    · rw [List.filter_cons_of_pos q, lsum_cons, lsum_cons, ih']
    · have q' : p b = false := by simpa using q
      rw [List.filter_cons_of_neg q, lsum_cons, h b (by simp) q', z_xr, ih']
theorem lsum_append (l m : List Nat) (f : Nat → Nat) : lsum (l ++ m) f = xr (lsum l f) (lsum m f) := by
  induction l with
  | nil => exact (z_xr _).symm
  | cons b l ih => rw [List.cons_append, lsum_cons, lsum_cons, ih, xr_assoc]
theorem lsum_range (n : Nat) (f : Nat → Nat) : lsum (List.range n) f = xsum n f := by
  induction n with
  | zero => rfl
  | succ n ih =>
    rw [List.range_succ, lsum_append, ih]
    show xr _ (xr (f n) 0) = xr _ (f n)
    rw [xr_z]
theorem nodup_len : ∀ (l m : List Nat), l.Nodup → (∀ x ∈ l, x ∈ m) → l.length ≤ m.length
  | [], m, _, _ => Nat.zero_le _
  | a :: l, m, hn, hs => by
    have hn' := List.nodup_cons.1 hn
    have ha := hs a (by simp)
    have := nodup_len l (m.erase a) hn'.2 fun x hx => (List.mem_erase_of_ne (fun e => hn'.1 (by rw [← e]; exact hx))).2 (hs x (by simp [hx]))
    rw [List.length_erase_of_mem ha] at this
    have : 0 < m.length := List.length_pos_of_mem ha
    simp only [List.length_cons]
    omega
theorem filter_both (p : Nat → Bool) (l : List Nat) : (l.filter p).length + (l.filter fun x => !p x).length = l.length := by
  induction l with
  | nil => rfl
  | cons b l ih =>
    by_cases q : p b = true
    · rw [List.filter_cons_of_pos q, List.filter_cons_of_neg (by simp [q])]
      simp only [List.length_cons]; omega
    · rw [List.filter_cons_of_neg q, List.filter_cons_of_pos (by simpa using q)]
      simp only [List.length_cons]; omega
/-- Any rows, each once, make nothing of nothing but nothing. -/
theorem rows_sure {cols more : Nat} (wh : Nat → Nat) (hc : cols + more ≤ 256) (hw : ∀ r, r < cols → wh r < cols + more) (hi : ∀ r s, r < cols → s < cols → wh r = wh s → r = s)
    (x : Nat → Nat) (hx : ∀ j, x j < 256) (h : ∀ r, r < cols → xsum cols (fun j => Gf.mul (allZ cols (wh r) j) (x j)) = 0) : ∀ c, c < cols → x c = 0 := by
  have hW : ((List.range cols).map wh).Nodup := by
    refine List.pairwise_map.2 (List.Pairwise.imp_of_mem (fun {a b} ha hb (q : a ≠ b) e => q (hi a b (List.mem_range.1 ha) (List.mem_range.1 hb) e)) List.nodup_range)
  have hone : ∀ r, r < cols → wh r < cols → x (wh r) = 0 := fun r hr hl => by
    have := h r hr
    rw [xsum_single (i := wh r) _ hl fun j _ hj => by unfold allZ oneZ; rw [if_pos hl, if_neg (fun e => hj e.symm), Gf.zero_mul]] at this
    unfold allZ oneZ at this
    rw [if_pos hl, if_pos rfl, one_mul' (hx _)] at this
    exact this
  have hids : ∀ j, j ∈ ((List.range cols).map wh).filter (fun k => decide (k < cols)) → x j = 0 := fun j hj => by
    obtain ⟨h1, h2⟩ := List.mem_filter.1 hj
    obtain ⟨r, hr, rfl⟩ := List.mem_map.1 h1
    exact hone r (List.mem_range.1 hr) (of_decide_eq_true h2)
  obtain ⟨ids, hidse⟩ : ∃ ids, ids = ((List.range cols).map wh).filter (fun k => decide (k < cols)) := ⟨_, rfl⟩
  rw [← hidse] at hids
  have hidn : ids.Nodup := by rw [hidse]; exact hW.filter _
  have hlen1 : ids.length + (((List.range cols).map wh).filter fun k => !decide (k < cols)).length = cols := by
    rw [hidse, filter_both]; simp
  have hlen2 := filter_both (fun j => decide (j ∈ ids)) (List.range cols)
  rw [List.length_range] at hlen2
  have hlen3 : ids.length ≤ ((List.range cols).filter fun j => decide (j ∈ ids)).length := nodup_len _ _ hidn fun j hj => by
    refine List.mem_filter.2 ⟨?_, by simpa using hj⟩
    rw [hidse] at hj
    exact List.mem_range.2 (of_decide_eq_true (List.mem_filter.1 hj).2)
  have key := cau_kernel ((List.range cols).filter fun j => !decide (j ∈ ids)) (((List.range cols).map wh).filter fun k => !decide (k < cols)) x (by omega) (hW.filter _) (List.nodup_range.filter _)
    (fun a ha => by
      obtain ⟨r, hr, rfl⟩ := List.mem_map.1 (List.mem_filter.1 ha).1
      have := hw r (List.mem_range.1 hr); omega)
    (fun b hb => by have := List.mem_range.1 (List.mem_filter.1 hb).1; omega)
    (fun a ha b hb e => by
      have h1 := (List.mem_filter.1 ha).2
      have h2 := List.mem_range.1 (List.mem_filter.1 hb).1
      simp at h1
      omega) hx
    (fun a ha => by
      obtain ⟨h1, h2⟩ := List.mem_filter.1 ha
      obtain ⟨r, hr, rfl⟩ := List.mem_map.1 h1
      have hge : cols ≤ wh r := by simpa using h2
      rw [lsum_filter fun b hb q => by
        have hb' : b ∈ ids := by simpa using q
        rw [hids b hb', Gf.zero_mul], lsum_range]
      rw [← h r (List.mem_range.1 hr)]
      refine xsum_congr fun j _ => ?_
      unfold allZ cauZ iv
      rw [if_neg (by omega), show cols + (wh r - cols) = wh r by omega, Gf.mul_comm])
  intro c hcc
  by_cases q : c ∈ ids
  · exact hids c q
  · exact key c (List.mem_filter.2 ⟨List.mem_range.2 hcc, by simpa using q⟩)
#print axioms rows_sure
end Go.Proofs.Ytlgdajmidcdiaaa
