/-
  A node goes through what it has, from a key on: by induction on how high it stands; within a range over a function.
-/
import Derived.Test.YtkpgaejmhddkdaaTreY
import Derived.Test.YtkpgaejmhddkdaaFnc
import Derived.Shelf.Abstract
import Derived.Deep.RegionHeld
import Derived.Sort.CutIn
namespace Go.Proofs.Ytkpgaejmhddkdaa
open Go.RowKit
set_option linter.unusedVariables false
set_option maxRecDepth 100000
set_option linter.unusedSimpArgs false
attribute [local go_sem] Oper.semAt_some wide_fn wide_depth

/-- A type of a tree's own blocks. -/
def TTy (t : TypeId) : Prop := t = 56 ∨ t = 60 ∨ t = 26
def Typ (W : World) (i : Nat) : Prop := ∃ (c : Array Value) (t : TypeId) (f : Nat × Nat), TTy t ∧ W.heap[i]? = some (.cells c t f)
/-- Trees' blocks stay. -/
def KpT (W W' : World) : Prop := ∀ (i : Nat) (c : Array Value) (t : TypeId) (f : Nat × Nat), TTy t → W.heap[i]? = some (.cells c t f) → W'.heap[i]? = some (.cells c t f)
theorem KpT.refl (W : World) : KpT W W := fun _ _ _ _ _ h => h
theorem KpT.trans {A B C : World} (h : KpT A B) (k : KpT B C) : KpT A C := fun i c t f ht hc => k i c t f ht (h i c t f ht hc)
theorem KpT.put {l : Nat} {W : World} {o o' : Obj} (ho : W.heap[l]? = some o) (hc : o.isCells = false) : KpT W (W.putObj l o') := fun i c t f _ h => (World.putObj_heap_other (fun e => by
  rw [e] at h; rw [h] at ho; cases ho; cases hc)).trans h
theorem KpT.of {S : Nat → Prop} {W W' : World} (h : Ch S W W') (hS : ∀ (i : Nat) (c : Array Value) (t : TypeId) (f : Nat × Nat), S i → W.heap[i]? = some (.cells c t f) → ¬ TTy t) : KpT W W' := fun i c t f ht hc => (h.block i (blk_lt hc) fun s => hS i c t f s hc ht).trans hc
theorem KpT.gr {W W' : World} (h : Ch (fun _ => False) W W') : KpT W W' := KpT.of h fun _ _ _ _ f => f.elim
theorem RowF.keep {α : Type} {F : Nat → Prop} {K : Kf α} (hK : K.Ok) {w w' : World} {A : Option Addr} {C : Nat} {L : List α} (h : RowF F K w A C L) (s : ∀ i, F i → w'.heap[i]? = w.heap[i]?) : RowF F K w' A C L := by
  refine ⟨⟨h.v.le, h.v.cap, fun h0 => ?_⟩, h.f, fun hL b o e => ?_⟩
  · obtain ⟨b, o, hA, hc⟩ := h.v.at' h0
    have hL : L ≠ [] := fun e => by rw [e] at h0; cases h0
    exact ⟨b, o, hA, fun i x hx j u hu => (World.cell?_of_block (s b (h.f hL b o hA))).trans (hc i x hx j u hu)⟩
  · obtain ⟨c, fr, hc⟩ := h.ty hL b o e
    exact ⟨c, fr, (s b (h.f hL b o e)).trans hc⟩
theorem NdAt.keep {F : Nat → Prop} {w w' : World} {b : Nat} {ps : List Kv} {cs : List Nat} (h : NdAt F w b ps cs) (s : ∀ i, F i → w'.heap[i]? = w.heap[i]?) : NdAt F w' b ps cs := by
  obtain ⟨hb, A, C, A2, C2, h1, h2, h3⟩ := h
  exact ⟨hb, A, C, A2, C2, (s b hb).trans h1, h2.keep kdPr_ok s, h3.keep kdNd_ok s⟩
theorem TrIs.keep {F : Nat → Prop} {w w' : World} (s : ∀ i, F i → w'.heap[i]? = w.heap[i]?) : ∀ {h : Nat} {p : Option Nat} {m : Nat} {L : List Kv}, TrIs F h w p m L → TrIs F h w' p m L
  | 0, _, _, _, q => q
  | h + 1, p, m, L, ⟨b, ps, cs, e, h1, h2, h3⟩ => ⟨b, ps, cs, e, h1.keep s, h2, h3.imp fun _ _ _ q => TrIs.keep s q⟩
theorem NdAt.typ {F : Nat → Prop} {w : World} {b : Nat} {ps : List Kv} {cs : List Nat} (h : NdAt F w b ps cs) : NdAt (Typ w) w b ps cs := by
  obtain ⟨hb, A, C, A2, C2, h1, h2, h3⟩ := h
  refine ⟨⟨_, _, _, Or.inr (Or.inl rfl), h1⟩, A, C, A2, C2, h1, ⟨h2.v, fun hL b o e => ?_, h2.ty⟩, ⟨h3.v, fun hL b o e => ?_, h3.ty⟩⟩
  · obtain ⟨c, fr, hc⟩ := h2.ty hL b o e
    exact ⟨_, _, _, Or.inl rfl, hc⟩
  · obtain ⟨c, fr, hc⟩ := h3.ty hL b o e
    exact ⟨_, _, _, Or.inr (Or.inr rfl), hc⟩
theorem TrIs.typ {F : Nat → Prop} {w : World} : ∀ {h : Nat} {p : Option Nat} {m : Nat} {L : List Kv}, TrIs F h w p m L → TrIs (Typ w) h w p m L
  | 0, _, _, _, q => q
  | h + 1, p, m, L, ⟨b, ps, cs, e, h1, h2, h3⟩ => ⟨b, ps, cs, e, h1.typ, h2, h3.imp fun _ _ _ q => TrIs.typ q⟩
/-- A tree, whose blocks are known by their types. -/
def TrT (h : Nat) (w : World) (p : Option Nat) (m : Nat) (L : List Kv) : Prop := TrIs (Typ w) h w p m L
theorem TrT.kp {W V : World} (k : KpT W V) {h : Nat} {p : Option Nat} {m : Nat} {L : List Kv} (q : TrT h W p m L) : TrT h V p m L :=
  (TrIs.keep (fun i hi => by
    obtain ⟨c, t, f, ht, hc⟩ := hi
    rw [hc, k i c t f ht hc]) q).mono fun i hi _ => by
    obtain ⟨c, t, f, ht, hc⟩ := hi
    exact ⟨c, t, f, ht, k i c t f ht hc⟩
theorem roundIn_n {n m : Nat} {l : Nat} {f : FuncId} {tmps : Array Value} {assign body : Code} {w : World} {R : Ending → World → Prop} (h : RoundIn Fence.wide n Try.prog l f tmps assign body w R) : RoundIn Fence.wide m Try.prog l f tmps assign body w R :=
  ⟨h.1, fun c cs hr => h.2 c cs (by intro d hd; cases hd)⟩
theorem yieldAt_n {n m : Nat} {l : Nat} {args : Array Value} {w : World} {R : Ending → World → Prop} (h : YieldAt Fence.wide n Try.prog l args w R) : YieldAt Fence.wide m Try.prog l args w R := by
  obtain ⟨fn, tmps, assign, body, hy, hR⟩ := h
  exact ⟨fn, tmps, assign, body, hy, roundIn_n hR⟩
#print axioms yieldAt_n
/-- A node's children, one for each gap. -/
theorem kids_view {P : Option Nat → Nat → List Kv → Prop} {h : Nat} {ps : List Kv} {cs : List Nat} {L : List Kv} (k : KidsP P h ps cs L) (h0 : h = 0 → P none 0 []) : ∃ Ls : List (List Kv), Ls.length = ps.length + 1 ∧ L = flat ps Ls ∧ ∀ j l, Ls[j]? = some l → (cs = [] ∨ j < cs.length) ∧ ∃ m, (0 < h → 1 ≤ m ∧ m ≤ 7) ∧ P cs[j]? m l := by
  rcases k with ⟨e1, e2, e3⟩ | ⟨e1, Ls, e2, e3, e4⟩
  · refine ⟨List.replicate (ps.length + 1) [], by simp, ?_, fun j l hj => ⟨Or.inl e2, 0, fun f => by omega, ?_⟩⟩
    · rw [e3, flat_leaf ps _ (fun l hl => List.eq_of_mem_replicate hl)]
    · have hm := List.eq_of_mem_replicate (List.mem_of_getElem? hj)
      rw [hm, e2]
      exact h0 e1
  · refine ⟨Ls, e2, e3, fun j l hj => ?_⟩
    have hl := e4.len
    have hjl : j < cs.length := by rw [hl]; exact (List.getElem?_eq_some_iff.1 hj).1
    obtain ⟨l1, c, l2, m1, y, m2, q1, q2, q3, q4, _, ⟨m, m3, m7, hp⟩, _⟩ := e4.split j hjl
    have hc : cs[j]? = some c := by rw [q1, List.getElem?_append_right (by omega)]; simp [q3]
    have hy : y = l := by
      rw [q2, List.getElem?_append_right (by omega)] at hj
      simp [q4] at hj
      exact hj
    exact ⟨Or.inr hjl, m, fun _ => ⟨by omega, m7⟩, by rw [hc, ← hy]; exact hp⟩
end Go.Proofs.Ytkpgaejmhddkdaa
