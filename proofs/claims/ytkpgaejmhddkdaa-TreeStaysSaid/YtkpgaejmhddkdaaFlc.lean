/-
  What Insert, Delete and Replace do to the cells of a row, copy by copy.
-/
import Derived.Test.YtkpgaejmhddkdaaTreD
namespace Go.Proofs.Ytkpgaejmhddkdaa
open Go.RowKit
set_option linter.unusedVariables false
set_option maxRecDepth 100000

theorem list_cut {β : Type} (M : List β) (a : Nat) (h : a ≤ M.length) : ∃ Y Z, M = Y ++ Z ∧ Y.length = a := ⟨M.take a, M.drop a, (List.take_append_drop a M).symm, by rw [List.length_take]; omega⟩
section
variable {α : Type} {K : Kf α}
theorem flC_one (hK : K.Ok) (L : List α) : ∀ u ∈ flC K L, u.oneCell' = true := fun u hu => by
  unfold flC at hu
  obtain ⟨x, _, hx⟩ := List.mem_flatMap.1 hu
  exact hK.one x u hx
/-- Whose heap is the same. -/
theorem blk_heap {w W : World} (h : W.heap = w.heap) {g : Nat} {o : Obj} (k : w.heap[g]? = some o) : W.heap[g]? = some o := by rw [h]; exact k
theorem cell_heap {w W : World} (h : W.heap = w.heap) {a : Addr} {v : Value} (k : w.cell? a = some v) : W.cell? a = some v := by
  unfold World.cell? at k ⊢
  rw [h]; exact k
/-- Cells of a block, as a source. -/
theorem src_blk {w : World} {g : Nat} {T : TypeId} {X cs Z : List Value} (h : w.heap[g]? = some (.cells (X ++ (cs ++ Z)).toArray T (0, 0))) {o : Nat} (ho : o = X.length) : ∀ j u, cs[j]? = some u → w.cell? ((⟨g, o, none⟩ : Addr).add j) = some u := fun j u hj => by
  rw [add_pl, blk_cell h, List.getElem?_toArray, ho, List.getElem?_append_right (by omega), show X.length + j - X.length = j by omega, List.getElem?_append_left (List.getElem?_eq_some_iff.1 hj).1]
  exact hj
/-- Cells that are read, as a source. -/
theorem src_flv (hK : K.Ok) {w : World} {b o C : Nat} {M : List α} (h : FlV K w (some ⟨b, o, none⟩) C M) : ∀ j u, (flC K M)[j]? = some u → w.cell? ((⟨b, o, none⟩ : Addr).add j) = some u := fun j u hj => by
  have hjl : j < M.length * K.k := by rw [← flC_len hK M]; exact (List.getElem?_eq_some_iff.1 hj).1
  have hk0 := hK.k0
  have hq : j / K.k < M.length := (Nat.div_lt_iff_lt_mul hk0).2 hjl
  obtain ⟨b', o', hA, hc⟩ := h.at' (Nat.lt_of_le_of_lt (Nat.zero_le _) hq)
  injection hA with hA
  injection hA with e1 e2
  subst e1 e2
  have hx : M[j / K.k]? = some M[j / K.k] := List.getElem?_eq_getElem hq
  have hr : j % K.k < (K.f M[j / K.k]).length := by rw [hK.len]; exact Nat.mod_lt _ hk0
  have hu : (K.f M[j / K.k])[j % K.k]? = some ((K.f M[j / K.k])[j % K.k]) := List.getElem?_eq_getElem hr
  have e1 := flC_get hK hx _ _ hu
  have ed : j / K.k * K.k + j % K.k = j := by rw [Nat.mul_comm]; exact Nat.div_add_mod j K.k
  rw [ed, hj] at e1
  injection e1 with e1
  rw [e1, add_pl]
  have := hc _ _ hx _ _ hu
  rw [show o + j / K.k * K.k + j % K.k = o + j by omega] at this
  exact this
/-- One place further up: what stands behind A. -/
theorem run_shift (hK : K.Ok) {w0 w : World} {g cap : Nat} {A B : List α} {R : List Value} (h : FlG K w0 w g cap (A ++ B) R) (hc : A.length + B.length + 1 ≤ cap) :
    ∃ U Z : List Value, U.length = K.k ∧ (flC K A ++ (U ++ (flC K B ++ Z))).length = (flC K (A ++ B) ++ R).length ∧ ∀ (W : World), W.heap = w.heap → ∀ (ty : TypeId) (o o2 dl sl dc sc : Nat), o = (A.length + 1) * K.k → o2 = A.length * K.k → Nat.min sl dl = B.length →
      (Builtin.copy_ #[K.S, K.S] ty #[.slice (some ⟨g, o, none⟩) dl dc, .slice (some ⟨g, o2, none⟩) sl sc]).run Try.prog W = .ok (goInt B.length) (W.setRow g (flC K A ++ (U ++ (flC K B ++ Z))).toArray) := by
  have hR := h.rest hK
  rw [List.length_append] at hR
  have hk0 := hK.k0
  have hRk : K.k ≤ R.length := by
    rw [hR]
    have : 1 * K.k ≤ (cap - (A.length + B.length)) * K.k := Nat.mul_le_mul_right _ (by omega)
    omega
  have hBl := flC_len hK B
  have hAl := flC_len hK A
  obtain ⟨U, M, e1, hU⟩ := list_cut (flC K B ++ R) K.k (by rw [List.length_append]; omega)
  have hM : (flC K B).length ≤ M.length := by
    have := congrArg List.length e1
    rw [List.length_append, List.length_append] at this; omega
  obtain ⟨Y, Z, e2, hY⟩ := list_cut M (flC K B).length hM
  have e3 : flC K (A ++ B) ++ R = (flC K A ++ U) ++ (Y ++ Z) := by rw [flC_app, List.append_assoc, e1, e2, List.append_assoc]
  have hb := h.blk
  refine ⟨U, Z, hU, ?_, fun W hW ty o o2 dl sl dc sc ho ho2 hmin => ?_⟩
  · rw [e3]
    simp only [List.length_append]
    omega
  · have r := run_copyF hK W ty g o dl dc sl sc B.length ⟨g, o2, none⟩ (flC K A ++ U) Y Z (flC K B) (by rw [← e3]; exact blk_heap hW hb) (by rw [List.length_append, hAl, hU, ho, Nat.succ_mul]) hY hBl hmin
      (src_blk (Z := R) (X := flC K A) (T := K.T) (by rw [← List.append_assoc, ← flC_app]; exact blk_heap hW hb) (by rw [hAl, ho2])) (flC_one hK B)
    rw [r]
    simp only [List.append_assoc]
/-- So many elements are laid over what stands behind A. -/
theorem run_over (hK : K.Ok) {w : World} {g : Nat} {A : List α} {U T : List Value} (h : w.heap[g]? = some (.cells (flC K A ++ (U ++ T)).toArray K.T (0, 0))) (M : List α) (hU : U.length = M.length * K.k) (a : Addr) (hsrc : ∀ j u, (flC K M)[j]? = some u → w.cell? (a.add j) = some u) :
    ∀ (W : World), W.heap = w.heap → ∀ (ty : TypeId) (o dl sl dc sc : Nat), o = A.length * K.k → Nat.min sl dl = M.length →
      (Builtin.copy_ #[K.S, K.S] ty #[.slice (some ⟨g, o, none⟩) dl dc, .slice (some a) sl sc]).run Try.prog W = .ok (goInt M.length) (W.setRow g (flC K (A ++ M) ++ T).toArray) := fun W hW ty o dl sl dc sc ho hmin => by
  have r := run_copyF hK W ty g o dl dc sl sc M.length a (flC K A) U T (flC K M) (blk_heap hW h) (by rw [flC_len hK, ho]) (by rw [hU, flC_len hK]) (flC_len hK M) hmin (fun j u hj => cell_heap hW (hsrc j u hj)) (flC_one hK M)
  rw [r, flC_app, List.append_assoc]
end
/-- A block that begins with M, to be read. -/
theorem flv_blk {α : Type} {K : Kf α} (hK : K.Ok) {w : World} {b C : Nat} {M : List α} {R : List Value} {T : TypeId} {fr : Nat × Nat} (h : w.heap[b]? = some (.cells (flC K M ++ R).toArray T fr)) (hl : M.length ≤ 1048576) (hC : M.length ≤ C) : FlV K w (some ⟨b, 0, none⟩) C M :=
  ⟨hl, hC, fun _ => ⟨b, 0, rfl, fun i x hx j u hu => by
    have e := flC_get hK hx j u hu
    have hlt := (List.getElem?_eq_some_iff.1 e).1
    rw [blk_cell h, List.getElem?_toArray, show 0 + i * K.k + j = i * K.k + j by omega, List.getElem?_append_left hlt]
    exact e⟩⟩
/-- No word of strings' bytes: two rows in two blocks do not overlap. -/
theorem overlaps_no (w : World) (S e R : TypeId) (hun : Try.prog.underlying S = some (.slice e)) (size : Nat) (hz : (Try.prog.info? e).map (·.size) = some size) (a b oa ob la ca lb cb : Nat) (hne : a ≠ b) (cA cB : Array Value) (tA tB : TypeId) (hA : w.heap[a]? = some (.cells cA tA (0, 0))) (hB : w.heap[b]? = some (.cells cB tB (0, 0))) (hk : 0 < cB.size) :
    (Extern.SlicesOverlaps.overlaps #[S, S] #[R] #[.slice (some ⟨a, oa, none⟩) la ca, .slice (some ⟨b, ob, none⟩) lb cb]).run Try.prog w = .ok (.bool false) w :=
  Lib.run_overlaps_apart w S R e hun size (fun w => by
    cases hq : Try.prog.info? e with
    | none => rw [hq] at hz; cases hz
    | some i =>
      rw [hq] at hz
      simp at hz
      simp [sizeOf, typeInfo, hq, hz]) ⟨a, oa, none⟩ ⟨b, ob, none⟩ la ca lb cb hne tA tB cA.size cB.size (by simp [World.shape?, hA]) (by simp [World.shape?, hB]) (by omega) (by simp [World.frozen?, hA]) (by simp [World.frozen?, hA])
#print axioms overlaps_no
end Go.Proofs.Ytkpgaejmhddkdaa
