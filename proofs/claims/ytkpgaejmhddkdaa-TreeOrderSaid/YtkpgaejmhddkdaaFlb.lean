/-
  Rows of one's own, block and all: copies, clears and appends within a row, said by what the block holds then.
-/
import Derived.Test.YtkpgaejmhddkdaaFla
import Derived.Lib.AppendZerosOnto
import Derived.Lib.Overlaps
import Derived.Lib.SliceRun
namespace Go.Proofs.Ytkpgaejmhddkdaa
open Go.RowKit
set_option linter.unusedVariables false
set_option maxRecDepth 100000

section
variable {α : Type} {K : Kf α}
/-- Block g has room for cap, and begins with L. -/
structure FlG (K : Kf α) (w0 w : World) (g cap : Nat) (L : List α) (R : List Value) : Prop where
  lo : w0.heap.size ≤ g
  blk : w.heap[g]? = some (.cells (flC K L ++ R).toArray K.T (0, 0))
  le : L.length ≤ cap
  max : cap ≤ maxLen
  len : (flC K L ++ R).length = cap * K.k
theorem FlO.parts (hK : K.Ok) {w0 w : World} {v : Value} {L : List α} (h : FlO K w0 w v L) : (v = .slice none 0 0 ∧ L = []) ∨ ∃ g cap R, v = .slice (some ⟨g, 0, none⟩) L.length cap ∧ FlG K w0 w g cap L R := by
  rcases h.2 with ⟨rfl, h0⟩ | ⟨g, cap, cur, rfl, hb, hg, hn, hm, hs, ht⟩
  · exact Or.inl ⟨rfl, List.eq_nil_of_length_eq_zero h0⟩
  · refine Or.inr ⟨g, cap, cur.toList.drop (L.length * K.k), rfl, hb, ?_, hn, hm, ?_⟩
    · rw [← ht, List.take_append_drop, Array.toArray_toList]; exact hg
    · rw [← ht, List.take_append_drop, Array.length_toList]; exact hs
theorem FlG.own (hK : K.Ok) {w0 w : World} {g cap : Nat} {L : List α} {R : List Value} (h : FlG K w0 w g cap L R) : FlO K w0 w (.slice (some ⟨g, 0, none⟩) L.length cap) L := by
  refine ⟨flC_len hK L, Or.inr ⟨g, cap, _, rfl, h.lo, h.blk, h.le, h.max, by rw [List.size_toArray]; exact h.len, ?_⟩⟩
  show (flC K L ++ R).take (L.length * K.k) = _
  rw [← flC_len hK L, List.take_left]
/-- The front of it. -/
theorem FlG.front {w0 w : World} {g cap : Nat} {A B : List α} {R : List Value} (h : FlG K w0 w g cap (A ++ B) R) : FlG K w0 w g cap A (flC K B ++ R) := by
  have e : flC K (A ++ B) ++ R = flC K A ++ (flC K B ++ R) := by rw [flC_app, List.append_assoc]
  refine ⟨h.lo, e ▸ h.blk, ?_, h.max, e ▸ h.len⟩
  have := h.le
  rw [List.length_append] at this
  omega
theorem FlG.put {w0 w : World} {g cap : Nat} {L : List α} {R : List Value} (h : FlG K w0 w g cap L R) {L2 : List α} {R2 : List Value} (hl : (flC K L2 ++ R2).length = (flC K L ++ R).length) (hc : L2.length ≤ cap) : FlG K w0 (w.setRow g (flC K L2 ++ R2).toArray) g cap L2 R2 :=
  ⟨h.lo, setRow_heap w g _ _ _ _ h.blk, hc, h.max, by rw [hl]; exact h.len⟩
theorem FlG.rest (hK : K.Ok) {w0 w : World} {g cap : Nat} {L : List α} {R : List Value} (h : FlG K w0 w g cap L R) : R.length = (cap - L.length) * K.k := by
  have h1 := h.len
  rw [List.length_append, flC_len hK] at h1
  have h2 := h.le
  rw [Nat.sub_mul]; omega
theorem FlG.ch {S : Nat → Prop} {w0 w w' : World} {g cap : Nat} {L : List α} {R : List Value} (h : FlG K w0 w g cap L R) (k : Ch S w w') (hS : ¬ S g) : FlG K w0 w' g cap L R :=
  ⟨h.lo, (k.block g (blk_lt h.blk) hS).trans h.blk, h.le, h.max, h.len⟩
/-- Its cells. -/
theorem FlG.cell {w0 w : World} {g cap : Nat} {L : List α} {R : List Value} (h : FlG K w0 w g cap L R) (X cs Z : List Value) (e : flC K L ++ R = X ++ (cs ++ Z)) (o : Nat) (ho : o = X.length) (j : Nat) (u : Value) (hj : cs[j]? = some u) : w.cell? ((⟨g, o, none⟩ : Addr).add j) = some u := by
  rw [add_pl, blk_cell h.blk, List.getElem?_toArray, e, ho, List.getElem?_append_right (by omega), show X.length + j - X.length = j by omega, List.getElem?_append_left (List.getElem?_eq_some_iff.1 hj).1]
  exact hj
/-- A part of a row is copied over: what stood there is gone. -/
theorem run_copyF (hK : K.Ok) (w : World) (ty : TypeId) (g o dLen dCap sLen sCap m : Nat) (a : Addr) (X Y Z cs : List Value) (hg : w.heap[g]? = some (.cells (X ++ (Y ++ Z)).toArray K.T (0, 0))) (ho : o = X.length) (hY : Y.length = cs.length) (hm : cs.length = m * K.k) (hmin : Nat.min sLen dLen = m)
    (hsrc : ∀ j v, cs[j]? = some v → w.cell? (a.add j) = some v) (h1 : ∀ v ∈ cs, v.oneCell' = true) :
    (Builtin.copy_ #[K.S, K.S] ty #[.slice (some ⟨g, o, none⟩) dLen dCap, .slice (some a) sLen sCap]).run Try.prog w = .ok (goInt m) (w.setRow g (X ++ (cs ++ Z)).toArray) := by
  subst ho
  obtain ⟨i0, hi, hz0, hz1, hz2⟩ := info_parts hK.inf
  have hl := run_loadCells_list (P := Try.prog) w a cs hsrc
  have hst := run_storeCells_at Try.prog g X.length K.T cs 0 (X ++ (Y ++ Z)).toArray w hg (by simp only [List.size_toArray, List.length_append]; omega) h1
  have e : ((X ++ (Y ++ Z)).toArray.toList.take (X.length + 0) ++ cs ++ (X ++ (Y ++ Z)).toArray.toList.drop (X.length + 0 + cs.length)) = X ++ (cs ++ Z) := by
    show (X ++ (Y ++ Z)).take (X.length + 0) ++ cs ++ (X ++ (Y ++ Z)).drop (X.length + 0 + cs.length) = _
    rw [Nat.add_zero, List.take_left, ← hY, ← List.append_assoc X Y Z, ← List.length_append, List.drop_left, List.append_assoc]
  rw [e] at hst
  rw [hm] at hl
  simp [Builtin.copy_, run_underlying hK.un, Builtin.lenOf, Builtin.firstCells, sizeOf, typeInfo, hi, hz1, hmin, hl, hst]
/-- A part of a row is cleared. -/
theorem run_clearF (hK : K.Ok) (hz : ∀ u ∈ K.z.cells, u.oneCell' = true) (w : World) (g o n c : Nat) (X Y Z : List Value) (hg : w.heap[g]? = some (.cells (X ++ (Y ++ Z)).toArray K.T (0, 0))) (ho : o = X.length) (hY : Y.length = n * K.k) (hn : 0 < n) :
    ∃ Y2 : List Value, Y2.length = Y.length ∧ ∀ ty, (Builtin.clear_ #[K.S] ty #[.slice (some ⟨g, o, none⟩) n c]).run Try.prog w = .ok (.tuple #[]) (w.setRow g (X ++ (Y2 ++ Z)).toArray) := by
  subst ho
  obtain ⟨i0, hi, hz0, hz1, hz2⟩ := info_parts hK.inf
  have hsz : (Builtin.zeroCells K.z.cells n).toList.length = Y.length := by rw [Array.length_toList, size_zeroCells, hK.zk, hY]
  refine ⟨(Builtin.zeroCells K.z.cells n).toList, hsz, fun ty => ?_⟩
  have hst := run_storeCells_at Try.prog g X.length K.T (Builtin.zeroCells K.z.cells n).toList 0 (X ++ (Y ++ Z)).toArray w hg (by simp only [List.size_toArray, List.length_append]; omega) (fun v hv => ?_)
  · have e : ((X ++ (Y ++ Z)).toArray.toList.take (X.length + 0) ++ (Builtin.zeroCells K.z.cells n).toList ++ (X ++ (Y ++ Z)).toArray.toList.drop (X.length + 0 + (Builtin.zeroCells K.z.cells n).toList.length)) = X ++ ((Builtin.zeroCells K.z.cells n).toList ++ Z) := by
      show (X ++ (Y ++ Z)).take (X.length + 0) ++ (Builtin.zeroCells K.z.cells n).toList ++ (X ++ (Y ++ Z)).drop (X.length + 0 + (Builtin.zeroCells K.z.cells n).toList.length) = _
      rw [Nat.add_zero, List.take_left, hsz, ← List.append_assoc X Y Z, ← List.length_append, List.drop_left, List.append_assoc]
    rw [e] at hst
    obtain ⟨m, rfl⟩ : ∃ m, n = m + 1 := ⟨n - 1, by omega⟩
    simp [Builtin.clear_, run_underlying hK.un, zeroValue, typeInfo, hi, hz0, hst]
  · obtain ⟨j, hj⟩ := List.mem_iff_getElem?.1 hv
    have hz' : ∀ j v, (Builtin.zeroCells K.z.cells n)[j]? = some v → v ∈ K.z.cells := fun j v hj => by
      have hj2 := Array.mem_of_getElem? hj
      simp [Builtin.zeroCells] at hj2
      obtain ⟨i, _, rfl⟩ := hj2
      have hlt : i % K.z.cells.size < K.z.cells.size := Nat.mod_lt _ (by rw [hK.zk]; exact hK.k0)
      have e := getElem!_pos K.z.cells (i % K.z.cells.size) hlt
      rw [e]
      exact Array.getElem_mem hlt
    exact hz v (hz' j v (by rw [← Array.getElem?_toList]; exact hj))
/-- An append where there is room: the same block. -/
theorem run_appF_room (hK : K.Ok) {w0 w : World} {g cap : Nat} {A : List α} {Y Z : List Value} (h : FlG K w0 w g cap A (Y ++ Z)) (ty : TypeId) (a : Addr) (m c : Nat) (cs : List Value) (hl : cs.length = m * K.k) (hY : Y.length = cs.length) (hsrc : ∀ j u, cs[j]? = some u → w.cell? (a.add j) = some u) (h1 : ∀ u ∈ cs, u.oneCell' = true) (hroom : A.length + m ≤ cap) :
    (Builtin.append_ #[K.S, K.S] ty #[.slice (some ⟨g, 0, none⟩) A.length cap, .slice (some a) m c]).run Try.prog w = .ok (.slice (some ⟨g, 0, none⟩) (A.length + m) cap) (w.setRow g (flC K A ++ (cs ++ Z)).toArray) := by
  obtain ⟨i0, hi, hz0, hz1, hz2⟩ := info_parts hK.inf
  have hfit : A.length * i0.size + cs.length ≤ (flC K A ++ (Y ++ Z)).toArray.size := by
    rw [hz1, List.size_toArray, List.length_append, flC_len hK, List.length_append]; omega
  have hr := run_append_room (P := Try.prog) w K.S ty K.T i0 hK.un hi g A.length cap (flC K A ++ (Y ++ Z)).toArray h.blk a m c cs (by rw [hz1]; exact hl) hsrc h1 hroom hfit
  rw [hr]
  congr 3
  rw [hz1]
  show (flC K A ++ (Y ++ Z)).take (A.length * K.k) ++ cs ++ (flC K A ++ (Y ++ Z)).drop (A.length * K.k + cs.length) = _
  rw [← flC_len hK A, List.take_left, ← hY, ← List.append_assoc (flC K A) Y Z, ← List.length_append, List.drop_left, List.append_assoc]
/-- An append of a row that may be read, whatever the room. -/
theorem FlO.appV (hK : K.Ok) {w0 w : World} {v : Value} {L M : List α} (h : FlO K w0 w v L) (ty : TypeId) (A : Option Addr) (C : Nat) (hM : FlV K w A C M) (hk : L.length + M.length ≤ 1048576) (hw : w0.heap.size ≤ w.heap.size) :
    ∃ v' w', (Builtin.append_ #[K.S, K.S] ty #[v, .slice A M.length C]).run Try.prog w = .ok v' w' ∧ FlO K w0 w' v' (L ++ M) ∧ Ch (fun i => v.ownBlock = some i) w w' ∧ (v'.ownBlock = v.ownBlock ∨ v'.ownBlock = some w.heap.size) := by
  obtain ⟨i0, hi, hz0, hz1, hz2⟩ := info_parts hK.inf
  have hb0 := hK.b0
  have hone : ∀ u ∈ flC K M, u.oneCell' = true := fun u hu => by
    unfold flC at hu
    obtain ⟨x, _, hx⟩ := List.mem_flatMap.1 hu
    exact hK.one x u hx
  by_cases h0 : 0 < M.length
  · obtain ⟨b, o, rfl, hc⟩ := hM.at' h0
    have hsrc : ∀ j u, (flC K M)[j]? = some u → w.cell? ((⟨b, o, none⟩ : Addr).add j) = some u := fun j u hj => by
      have hjl : j < M.length * K.k := by rw [← flC_len hK M]; exact (List.getElem?_eq_some_iff.1 hj).1
      have hk0 := hK.k0
      have hq : j / K.k < M.length := (Nat.div_lt_iff_lt_mul hk0).2 hjl
      have hx : M[j / K.k]? = some M[j / K.k] := List.getElem?_eq_getElem hq
      have hr : j % K.k < (K.f M[j / K.k]).length := by rw [hK.len]; exact Nat.mod_lt _ hk0
      have hu : (K.f M[j / K.k])[j % K.k]? = some ((K.f M[j / K.k])[j % K.k]) := List.getElem?_eq_getElem hr
      have e1 := flC_get hK hx _ _ hu
      have ed : j / K.k * K.k + j % K.k = j := by rw [Nat.mul_comm]; exact Nat.div_add_mod j K.k
      rw [ed, hj] at e1
      injection e1 with e1
      rw [e1, add_pl]
      have := hc _ _ hx _ _ hu
      rw [show o + j / K.k * K.k + j % K.k = o + j by omega] at this
      exact this
    obtain ⟨v', w', hr, h2, h3, _, h5⟩ := run_append_own_at (P := Try.prog) w w0.heap.size K.S ty K.T i0 K.z K.k K.by' hK.un hi hz0 hz1 hz2 hK.zk hK.k0 v L.length (flC K L) h ⟨b, o, none⟩ M.length C (flC K M) (flC_len hK M) hsrc hone (by unfold maxLen; omega) (by
      have : (L.length + M.length) * K.by' ≤ (L.length + M.length) * 128 := Nat.mul_le_mul_left _ hb0; omega) hw
    rw [← flC_app, ← List.length_append] at h2
    exact ⟨v', w', hr, h2, (Ch.refl _ w).grown h3 (fun i e => Or.inl e), h5⟩
  · have hM0 : M = [] := List.eq_nil_of_length_eq_zero (by omega)
    subst hM0
    refine ⟨v, w, ?_, by rw [List.append_nil]; exact h, Ch.refl _ _, Or.inl rfl⟩
    have hle : ∃ A' n' C', v = .slice A' n' C' ∧ n' ≤ C' := by
      rcases h.2 with ⟨rfl, h0⟩ | ⟨g, cap, cur, rfl, _, _, hc, _⟩
      · exact ⟨none, 0, 0, rfl, Nat.le_refl _⟩
      · exact ⟨_, _, cap, rfl, hc⟩
    obtain ⟨A', n', C', rfl, hle⟩ := hle
    have hz' : ∀ w', (Builtin.firstCells K.k 0 (.slice A 0 C)).run Try.prog w' = .ok #[] w' := fun w' => by
      cases A with
      | none => exact run_firstCells_none w' K.k 0 0 C
      | some a => exact run_firstCells_some w' K.k 0 a 0 C [] (by simp) (fun j u hj => by simp at hj)
    have hs : Src Try.prog i0.size K.S (.slice A 0 C) 0 [] w := ⟨.inl ⟨K.T, hK.un⟩, fun _ => rfl, by rw [hz1]; exact hz' w, by rw [hz1]; exact hz' w.drew, by simp, fun u hu => by cases hu⟩
    simp [Builtin.append_, run_underlying hK.un, sizeOf, typeInfo, hi, hs.len, hle, hs.cells, storeCells]
    cases A' <;> rfl
/-- A new row behind the front of an old one: so many zeroes. -/
theorem run_growF (hK : K.Ok) (w : World) (ty tn : TypeId) (htn : Try.prog.underlying tn = some (.int .i64)) (ad : Addr) (n C m : Nat) (cs : List Value) (hl : cs.length = n * K.k) (hsrc : ∀ j u, cs[j]? = some u → w.cell? (ad.add j) = some u) (hm : 0 < m) (hC : C < n + m) (hnm : n + m ≤ 1048576) :
    ∃ cap R w', (Builtin.append_ #[K.S, tn] ty #[.slice (some ad) n C, .int .i64 (m : Int)]).run Try.prog w = .ok (.slice (some ⟨w.heap.size, 0, none⟩) (n + m) cap) w' ∧ Ch (fun _ => False) w w' ∧ w'.heap[w.heap.size]? = some (.cells (cs ++ R).toArray K.T (0, 0)) ∧ (cs ++ R).length = cap * K.k ∧ n + m ≤ cap ∧ cap ≤ maxLen := by
  obtain ⟨i0, hi, hz0, hz1, hz2⟩ := info_parts hK.inf
  have hb0 := hK.b0
  have hge := grownCap_ge w (n + m) C K.T
  have hle := grownCap_le_maxLen w (n + m) C K.T (by unfold maxLen; omega)
  have hby : (n + m) * K.by' ≤ (n + m) * 128 := Nat.mul_le_mul_left _ hb0
  have hmb : m * K.by' ≤ m * 128 := Nat.mul_le_mul_left _ hb0
  have hr := Lib.run_append_grow_zeros (P := Try.prog) w K.S tn ty K.T i0 K.z .i64 .i64 hK.un htn hi hz0 (some ad) n C cs (by
    rw [hz1]; exact run_firstCells_some w.drew K.k n ad n C cs hl (fun j u hj => hsrc j u hj)) m hm (by rw [hz1]; exact hK.k0) hC (by omega) (by rw [hz2]; omega) (by
    rw [hz2]; exact growslice_fits hC (by omega))
  refine ⟨_, (Builtin.zeroCells K.z.cells m ++ Builtin.zeroCells K.z.cells (grownCap w (n + m) C K.T - (n + m))).toList, _, hr, (Ch.refl _ w).drew.alloc _ _, ?_, ?_, hge, hle⟩
  · rw [show w.heap.size = w.drew.heap.size from rfl, heap_alloc_new]
    congr 2
    apply Array.ext'
    simp
  · rw [List.length_append, hl, Array.length_toList, Array.size_append, size_zeroCells, size_zeroCells, hK.zk, ← Nat.add_mul, ← Nat.add_mul]
    congr 1
    omega
end
#print axioms run_growF
end Go.Proofs.Ytkpgaejmhddkdaa
