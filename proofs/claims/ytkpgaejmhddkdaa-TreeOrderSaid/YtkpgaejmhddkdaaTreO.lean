/-
  Trees that are parted and joined; set of a node's child, walked.
-/
import Derived.Test.YtkpgaejmhddkdaaTreN
namespace Go.Proofs.Ytkpgaejmhddkdaa
open Go.RowKit
set_option linter.unusedVariables false
set_option maxRecDepth 100000
set_option linter.unusedSimpArgs false

theorem flat_split : ∀ {q1 : List Kv} {x : Kv} {q2 : List Kv} {A B : List (List Kv)}, A.length = q1.length + 1 → flat (q1 ++ x :: q2) (A ++ B) = flat q1 A ++ x :: flat q2 B
  | [], x, q2, [l], B, _ => rfl
  | y :: q1, x, q2, l :: A, B, h => by
    have h' : A.length = q1.length + 1 := by simpa using h
    show l ++ y :: flat (q1 ++ x :: q2) (A ++ B) = (l ++ y :: flat q1 A) ++ x :: flat q2 B
    rw [flat_split h', List.append_assoc, List.cons_append]
  | [], _, _, [], _, h => by simp at h
  | [], _, _, _ :: _ :: _, _, h => by simp at h
  | _ :: _, _, _, [], _, h => by simp at h
theorem All2.parts {α β : Type} {R : α → β → Prop} : ∀ {l1 l2 : List α} {m : List β}, All2 R (l1 ++ l2) m → ∃ m1 m2, m = m1 ++ m2 ∧ All2 R l1 m1 ∧ All2 R l2 m2
  | [], l2, m, h => ⟨[], m, rfl, .nil, h⟩
  | a :: l1, l2, _, .cons (b := b) (m := m) r h => by
    obtain ⟨m1, m2, rfl, h1, h2⟩ := h.parts
    exact ⟨b :: m1, m2, rfl, .cons r h1, h2⟩
section
variable {P : Option Nat → Nat → List Kv → Prop} {h : Nat}
theorem kids_len {ps : List Kv} {cs : List Nat} {L : List Kv} (k : KidsP P h ps cs L) : (h = 0 ∧ cs = []) ∨ (0 < h ∧ cs.length = ps.length + 1) := by
  rcases k with ⟨h0, h1, _⟩ | ⟨h0, Ls, h1, _, h3⟩
  · exact Or.inl ⟨h0, h1⟩
  · exact Or.inr ⟨h0, h3.len.trans h1⟩
theorem kids_split {q1 q2 : List Kv} {x : Kv} {d1 d2 : List Nat} {L : List Kv} (k : KidsP P h (q1 ++ x :: q2) (d1 ++ d2) L) (hd : (d1 = [] ∧ d2 = []) ∨ (d1.length = q1.length + 1 ∧ d2.length = q2.length + 1)) : ∃ L1 L2, L = L1 ++ x :: L2 ∧ KidsP P h q1 d1 L1 ∧ KidsP P h q2 d2 L2 := by
  rcases k with ⟨h0, h1, h2⟩ | ⟨h0, Ls, h1, h2, h3⟩
  · have e := List.append_eq_nil_iff.1 h1
    exact ⟨q1, q2, h2, Or.inl ⟨h0, e.1, rfl⟩, Or.inl ⟨h0, e.2, rfl⟩⟩
  · have hl := h3.len
    rcases hd with ⟨rfl, rfl⟩ | ⟨e1, e2⟩
    · rw [h1] at hl; simp at hl
    · obtain ⟨m1, m2, rfl, k1, k2⟩ := h3.parts
      have g1 := k1.len
      have g2 := k2.len
      exact ⟨flat q1 m1, flat q2 m2, by rw [h2, flat_split (by omega)], Or.inr ⟨h0, m1, by omega, rfl, k1⟩, Or.inr ⟨h0, m2, by omega, rfl, k2⟩⟩
theorem kids_join {ql qr : List Kv} {p : Kv} {dl dr : List Nat} {Ll Lr : List Kv} (k1 : KidsP P h ql dl Ll) (k2 : KidsP P h qr dr Lr) : KidsP P h (ql ++ p :: qr) (dl ++ dr) (Ll ++ p :: Lr) := by
  rcases k1 with ⟨h0, rfl, rfl⟩ | ⟨h0, L1, h1, rfl, h3⟩
  · rcases k2 with ⟨_, rfl, rfl⟩ | ⟨h0', _⟩
    · exact Or.inl ⟨h0, rfl, rfl⟩
    · omega
  · rcases k2 with ⟨h0', _⟩ | ⟨_, L2, g1, rfl, g3⟩
    · omega
    · exact Or.inr ⟨h0, L1 ++ L2, by simp only [List.length_append, List.length_cons]; omega, (flat_split h1).symm, h3.app g3⟩
theorem kids_both {ql qr : List Kv} {dl dr : List Nat} {Ll Lr : List Kv} (k1 : KidsP P h ql dl Ll) (k2 : KidsP P h qr dr Lr) : (dl = [] ∧ dr = []) ∨ (dl.length = ql.length + 1 ∧ dr.length = qr.length + 1) := by
  rcases kids_len k1 with ⟨h0, e1⟩ | ⟨h0, e1⟩
  · rcases kids_len k2 with ⟨_, e2⟩ | ⟨h0', _⟩
    · exact Or.inl ⟨e1, e2⟩
    · omega
  · rcases kids_len k2 with ⟨h0', _⟩ | ⟨_, e2⟩
    · omega
    · exact Or.inr ⟨e1, e2⟩
end
/-- A child: a tree of 3 to 7 pairs in its root. -/
def Kid (F : Nat → Prop) (h : Nat) (w : World) (c : Nat) (l : List Kv) : Prop := ∃ m, 3 ≤ m ∧ m ≤ 7 ∧ TrIs F h w (some c) m l
theorem Kid.ch {F G S : Nat → Prop} {h : Nat} {w w' : World} {c : Nat} {l : List Kv} (k : Kid F h w c l) (hc : Ch S w w') (hS : ∀ i, F i → ¬ S i) (hG : ∀ i, F i → G i) : Kid G h w' c l := by
  obtain ⟨m, h1, h2, h3⟩ := k
  exact ⟨m, h1, h2, (h3.ch hc hS).mono fun i hi _ => hG i hi⟩
/-- A child is written over. -/
theorem own_put {w0 w : World} {nb : Nat} {vp vc : Value} {ps : List Kv} {A B : List Nat} {x : Nat} (h : OwnN w0 w nb vp vc ps (A ++ x :: B)) (y : Nat) : ∃ g C, vc = .slice (some ⟨g, 0, none⟩) (A.length + B.length + 1) C ∧ OwnN w0 (w.setCell ⟨g, A.length, none⟩ (.pointer (some ⟨y, 0, none⟩))) nb vp vc ps (A ++ y :: B) ∧
    Ch (OwnS nb vp vc) w (w.setCell ⟨g, A.length, none⟩ (.pointer (some ⟨y, 0, none⟩))) ∧ w.cell? ⟨g, A.length, none⟩ = some (.pointer (some ⟨x, 0, none⟩)) ∧ w.frozen? ⟨g, A.length, none⟩ = false := by
  have hl : (A ++ x :: B).length = A.length + B.length + 1 := by simp only [List.length_append, List.length_cons]; omega
  have hl2 : (A ++ y :: B).length = A.length + B.length + 1 := by simp only [List.length_append, List.length_cons]; omega
  rcases h.nd.parts kdNd_ok with ⟨_, e⟩ | ⟨g, cap, R, rfl, hg⟩
  · simp at e
  have hA := flC_len kdNd_ok A
  rw [show kdNd.k = 1 from rfl, Nat.mul_one] at hA
  have ec : ∀ z, flC kdNd (A ++ z :: B) ++ R = flC kdNd A ++ (.pointer (some ⟨z, 0, none⟩) :: (flC kdNd B ++ R)) := fun z => by rw [flC_app, List.append_assoc]; rfl
  have k := (Ch.refl (fun i => i = g) w).setCell (p := ⟨g, A.length, none⟩) (Or.inl rfl) (.pointer (some ⟨y, 0, none⟩))
  have hown : (Value.slice (some ⟨g, 0, none⟩) (A ++ x :: B).length cap).ownBlock = some g := rfl
  have hblk : (w.setCell ⟨g, A.length, none⟩ (.pointer (some ⟨y, 0, none⟩))).heap[g]? = some (.cells (flC kdNd (A ++ y :: B) ++ R).toArray kdNd.T (0, 0)) := by
    rw [blk_set hg.blk, ec x, ec y]
    congr 2
    rw [List.setIfInBounds_toArray]
    congr 1
    rw [← hA, List.set_append_right _ _ (Nat.le_refl _)]
    simp
  have hnd : FlO kdNd w0 (w.setCell ⟨g, A.length, none⟩ (.pointer (some ⟨y, 0, none⟩))) (.slice (some ⟨g, 0, none⟩) (A ++ x :: B).length cap) (A ++ y :: B) := by
    have q := FlG.own kdNd_ok (⟨hg.lo, hblk, by rw [hl2, ← hl]; exact hg.le, hg.max, by
      have := hg.len
      rw [ec] at this ⊢
      simp only [List.length_append, List.length_cons] at this ⊢
      omega⟩ : FlG kdNd w0 _ g cap (A ++ y :: B) R)
    rw [hl2, ← hl] at q
    exact q
  refine ⟨g, cap, by rw [hl], ⟨h.lo, (k.block nb (blk_lt h.blk) fun e => (h.apart2 (show _ = some g from rfl)).1 e.symm).trans h.blk, h.pr.ch k fun i e e2 => (h.apart2 (show _ = some g from rfl)).2 (e2 ▸ e), hnd⟩, (Ch.refl _ w).setCell (p := ⟨g, A.length, none⟩) (Or.inl (Or.inr (Or.inr rfl))) _, ?_, blk_frozen hg.blk⟩
  rw [blk_cell hg.blk, List.getElem?_toArray, ec x, ← hA, List.getElem?_append_right (Nat.le_refl _)]
  simp
#print axioms own_put
end Go.Proofs.Ytkpgaejmhddkdaa
