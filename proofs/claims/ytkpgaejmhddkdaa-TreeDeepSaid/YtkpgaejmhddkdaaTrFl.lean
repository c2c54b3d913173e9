/-
  Plain: in which order keys are put does not matter; what is let go is gone.
-/
import Derived.Test.YtkpgaejmhddkdaaTrFk
namespace Go.Proofs.Ytkpgaejmhddkdaa
open Go.RowKit
set_option linter.unusedVariables false
set_option maxRecDepth 100000

theorem rise_ext : ∀ {a b : List Kv}, Rise a → Rise b → (∀ x, x ∈ a ↔ x ∈ b) → a = b
  | [], [], _, _, _ => rfl
  | [], y :: b, _, _, h => absurd ((h y).2 (List.mem_cons_self ..)) (by simp)
  | x :: a, [], _, _, h => absurd ((h x).1 (List.mem_cons_self ..)) (by simp)
  | x :: a, y :: b, ha, hb, h => by
    obtain ⟨ha1, ha2⟩ := rise_cons.1 ha
    obtain ⟨hb1, hb2⟩ := rise_cons.1 hb
    have e : x = y := by
      rcases List.mem_cons.1 ((h x).1 (List.mem_cons_self ..)) with e | e
      · exact e
      · rcases List.mem_cons.1 ((h y).2 (List.mem_cons_self ..)) with e2 | e2
        · exact e2.symm
        · have h1 := hb1 x e
          have h2 := ha1 y e2
          rw [kLt_asymm h1] at h2
          cases h2
    subst e
    rw [rise_ext ha2 hb2 fun z => ⟨fun hz => ?_, fun hz => ?_⟩]
    · rcases List.mem_cons.1 ((h z).1 (List.mem_cons_of_mem _ hz)) with e | e
      · have h1 := ha1 z hz
        rw [e, kLt_irrefl] at h1
        cases h1
      · exact e
    · rcases List.mem_cons.1 ((h z).2 (List.mem_cons_of_mem _ hz)) with e | e
      · have h1 := hb1 z hz
        rw [e, kLt_irrefl] at h1
        cases h1
      · exact e
theorem mem_put {L : List Kv} {k : ByteArray} {v : Int} {x : Kv} : x ∈ putL13 L k v ↔ x = (k, v) ∨ (x ∈ L ∧ x.1 ≠ k) := by
  unfold putL13
  rw [List.mem_append, List.mem_cons, List.mem_filter, List.mem_filter]
  constructor
  · rintro (⟨h1, h2⟩ | h | ⟨h1, h2⟩)
    · exact Or.inr ⟨h1, kLt_ne h2⟩
    · exact Or.inl h
    · exact Or.inr ⟨h1, fun e => kLt_ne h2 e.symm⟩
  · rintro (h | ⟨h1, h2⟩)
    · exact Or.inr (Or.inl h)
    · rcases kLt_total h2 with q | q
      · exact Or.inl ⟨h1, q⟩
      · exact Or.inr (Or.inr ⟨h1, q⟩)
theorem mem_del {L : List Kv} {k : ByteArray} {x : Kv} : x ∈ delL L k ↔ x ∈ L ∧ x.1 ≠ k := by
  unfold delL
  rw [List.mem_filter]
  constructor
  · rintro ⟨h1, h2⟩
    refine ⟨h1, fun e => ?_⟩
    rw [e, kEq_self] at h2
    cases h2
  · rintro ⟨h1, h2⟩
    refine ⟨h1, ?_⟩
    rw [kEq_no.2 h2]
    rfl
/-- Keys that are put, each with 1. -/
def putsL (ks : List ByteArray) : List Kv := ks.foldl (fun L k => putL13 L k 1) []
theorem putsL_snoc (ks : List ByteArray) (k : ByteArray) : putsL (ks ++ [k]) = putL13 (putsL ks) k 1 := by simp [putsL]
theorem mem_puts (ks : List ByteArray) (x : Kv) : x ∈ putsL ks ↔ x.2 = 1 ∧ x.1 ∈ ks := by
  have key : ∀ (l : List ByteArray) (L : List Kv) (s : List ByteArray), (∀ x : Kv, x ∈ L ↔ x.2 = 1 ∧ x.1 ∈ s) → ∀ x : Kv, x ∈ l.foldl (fun L k => putL13 L k 1) L ↔ x.2 = 1 ∧ x.1 ∈ s ++ l := by
    intro l
    induction l with
    | nil => intro L s h x; rw [List.append_nil]; exact h x
    | cons k l ih =>
      intro L s h x
      rw [List.foldl_cons, show s ++ k :: l = (s ++ [k]) ++ l by simp]
      refine ih (putL13 L k 1) (s ++ [k]) (fun y => ?_) x
      rw [mem_put, h y, List.mem_append, List.mem_singleton]
      constructor
      · rintro (rfl | ⟨⟨h1, h2⟩, h3⟩)
        · exact ⟨rfl, Or.inr rfl⟩
        · exact ⟨h1, Or.inl h2⟩
      · rintro ⟨h1, h2⟩
        by_cases q : y.1 = k
        · exact Or.inl (Prod.ext q h1)
        · exact Or.inr ⟨⟨h1, h2.resolve_right q⟩, q⟩
  have := key ks [] [] (by simp) x
  rw [List.nil_append] at this
  exact this
theorem rise_puts (ks : List ByteArray) : Rise (putsL ks) := by
  have key : ∀ (l : List ByteArray) (L : List Kv), Rise L → Rise (l.foldl (fun L k => putL13 L k 1) L) := by
    intro l
    induction l with
    | nil => exact fun L h => h
    | cons k l ih => exact fun L h => ih _ (rise_put h k 1)
  exact key ks [] rise_nil
/-- Forth and back. -/
theorem puts_back (ks : List ByteArray) : putsL ks.reverse = putsL ks := rise_ext (rise_puts _) (rise_puts _) fun x => by rw [mem_puts, mem_puts, List.mem_reverse]
/-- All of it let go. -/
def delsL (ks : List ByteArray) (L : List Kv) : List Kv := ks.foldl delL L
theorem mem_dels : ∀ (ks : List ByteArray) (L : List Kv) (x : Kv), x ∈ delsL ks L ↔ x ∈ L ∧ x.1 ∉ ks
  | [], L, x => by simp [delsL]
  | k :: ks, L, x => by
    show x ∈ delsL ks (delL L k) ↔ _
    rw [mem_dels ks, mem_del, List.mem_cons, not_or]
    exact ⟨fun ⟨⟨a, b⟩, c⟩ => ⟨a, b, c⟩, fun ⟨a, b, c⟩ => ⟨⟨a, b⟩, c⟩⟩
theorem dels_none (ks : List ByteArray) (L : List Kv) (h : ∀ x ∈ L, x.1 ∈ ks) : delsL ks L = [] := List.eq_nil_iff_forall_not_mem.2 fun x hx => by
  have h1 := (mem_dels ks L x).1 hx
  exact h1.2 (h x h1.1)
#print axioms puts_back
#print axioms dels_none
end Go.Proofs.Ytkpgaejmhddkdaa
