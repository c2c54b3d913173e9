/-
  Two trees side by side; rows of strings.
-/
import Derived.Test.YtkpgaejmhddkdaaTrFl
namespace Go.Proofs.Ytkpgaejmhddkdaa
open Go.RowKit
set_option linter.unusedVariables false
set_option maxRecDepth 100000

def kdSt : Kf ByteArray := ⟨ 9, 52, 1, 16, .string ByteArray.empty, fun x => [.string x]⟩
theorem kdSt_ok : kdSt.Ok := ⟨by kernel_rfl, by kernel_rfl, by kernel_rfl, by decide, by decide, by decide, fun _ => rfl, fun x u hu => by
  simp only [kdSt, List.mem_cons, List.not_mem_nil, or_false] at hu
  rcases hu with rfl
  rfl⟩
/-- What another tree's calls leave of a tree. -/
theorem TreeIs.other {w w' : World} {t u h : Nat} {L : List Kv} (q : TreeIs w t h L) (k : Ch (fun i => i = u) w w') (hu : ∃ c f, w.heap[u]? = some (.cells c 28 f)) (hn : t ≠ u) : TreeIs w' t h L := by
  obtain ⟨F, root, m, h1, h2, h3, h4, _, h6⟩ := q
  obtain ⟨cu, fu, hu⟩ := hu
  have hne : ∀ i, Typ w i → i ≠ u ∧ i ≠ t ∧ i < w.heap.size := fun i hi => by
    obtain ⟨c, T, f, hT, hc⟩ := hi
    have no : ∀ {j : Nat} {c2 : Array Value} {f2 : Nat × Nat}, w.heap[j]? = some (.cells c2 28 f2) → i ≠ j := fun hj e => by
      subst e
      rw [hc] at hj
      injection hj with hj
      injection hj with _ hj _
      rw [hj] at hT
      exact absurd hT (by unfold TTy; decide)
    exact ⟨no hu, no h1, blk_lt hc⟩
  exact ⟨Typ w, root, m, (k.block t (blk_lt h1) hn).trans h1, h2.typ.ch k fun i hi e => (hne i hi).1 e, h3, h4, fun i hi => ⟨Nat.lt_of_lt_of_le (hne i hi).2.2 k.size, (hne i hi).2.1⟩, h6⟩
#print axioms TreeIs.other
end Go.Proofs.Ytkpgaejmhddkdaa
