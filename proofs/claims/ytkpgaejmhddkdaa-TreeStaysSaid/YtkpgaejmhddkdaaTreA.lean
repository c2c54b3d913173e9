/-
  Keys in the order of their bytes, and lists of keys with what they have, plainly.
-/
import Derived.Test.YtkpgaejmhddkdaaBas
import Derived.Laws.Strings
namespace Go.Proofs.Ytkpgaejmhddkdaa
open Go.RowKit
set_option linter.unusedVariables false
set_option maxRecDepth 100000

/-! ### keys -/
theorem bl_irrefl : ∀ a : List UInt8, Op.bytesLess a a = false
  | [] => rfl
  | a :: x => by
    unfold Op.bytesLess
    rw [bl_irrefl x]
    simp
theorem bl_trans : ∀ {a b c : List UInt8}, Op.bytesLess a b = true → Op.bytesLess b c = true → Op.bytesLess a c = true
  | _, [], _, h, _ => by unfold Op.bytesLess at h; cases h
  | [], _ :: _, [], _, h => by unfold Op.bytesLess at h; cases h
  | [], _ :: _, _ :: _, _, _ => by unfold Op.bytesLess; rfl
  | _ :: _, _ :: _, [], _, h => by unfold Op.bytesLess at h; cases h
  | a :: x, b :: y, c :: z, h, h2 => by
    unfold Op.bytesLess at h h2 ⊢
    simp only [Bool.or_eq_true, Bool.and_eq_true, decide_eq_true_eq, beq_iff_eq] at h h2 ⊢
    rcases h with h | ⟨rfl, h⟩
    · rcases h2 with h2 | ⟨rfl, h2⟩
      · exact Or.inl (UInt8.lt_trans h h2)
      · exact Or.inl h
    · rcases h2 with h2 | ⟨rfl, h2⟩
      · exact Or.inl h2
      · exact Or.inr ⟨rfl, bl_trans h h2⟩
theorem bl_total : ∀ {a b : List UInt8}, a ≠ b → Op.bytesLess a b = true ∨ Op.bytesLess b a = true
  | [], [], h => absurd rfl h
  | [], _ :: _, _ => Or.inl (by unfold Op.bytesLess; rfl)
  | _ :: _, [], _ => Or.inr (by unfold Op.bytesLess; rfl)
  | a :: x, b :: y, h => by
    unfold Op.bytesLess
    simp only [Bool.or_eq_true, Bool.and_eq_true, decide_eq_true_eq, beq_iff_eq]
    by_cases e : a = b
    · subst e
      rcases bl_total (a := x) (b := y) (fun q => h (by rw [q])) with q | q
      · exact Or.inl (Or.inr ⟨rfl, q⟩)
      · exact Or.inr (Or.inr ⟨rfl, q⟩)
    · rcases Nat.lt_or_gt_of_ne (fun q => e (UInt8.toNat_inj.1 q)) with q | q
      · exact Or.inl (Or.inl (UInt8.lt_iff_toNat_lt.2 q))
      · exact Or.inr (Or.inl (UInt8.lt_iff_toNat_lt.2 q))
/-- Is a below b? -/
def kLt (a b : ByteArray) : Bool := Op.bytesLess a.toList b.toList
def kEq (a b : ByteArray) : Bool := a.toList == b.toList
theorem kEq_iff {a b : ByteArray} : kEq a b = true ↔ a = b := by
  unfold kEq
  rw [beq_iff_eq, ByteArray.toList_eq, ByteArray.toList_eq]
  exact ⟨fun h => by
    cases a; cases b
    congr 1
    exact Array.ext' h, fun h => by rw [h]⟩
theorem kEq_no {a b : ByteArray} : kEq a b = false ↔ a ≠ b := by
  rw [← Bool.not_eq_true, kEq_iff]
theorem kEq_self (a : ByteArray) : kEq a a = true := kEq_iff.2 rfl
theorem kEq_symm (a b : ByteArray) : kEq a b = kEq b a := by
  by_cases h : a = b
  · rw [h]
  · rw [kEq_no.2 h, kEq_no.2 (Ne.symm h)]
theorem kLt_irrefl (a : ByteArray) : kLt a a = false := bl_irrefl _
theorem kLt_trans {a b c : ByteArray} (h : kLt a b = true) (h2 : kLt b c = true) : kLt a c = true := bl_trans h h2
theorem kLt_asymm {a b : ByteArray} (h : kLt a b = true) : kLt b a = false := by
  cases e : kLt b a with
  | false => rfl
  | true => rw [← kLt_irrefl a]; exact (kLt_trans h e).symm
theorem kLt_total {a b : ByteArray} (h : a ≠ b) : kLt a b = true ∨ kLt b a = true := bl_total fun e => h (kEq_iff.1 (beq_iff_eq.2 e))
theorem kLt_ne {a b : ByteArray} (h : kLt a b = true) : a ≠ b := fun e => by rw [e, kLt_irrefl] at h; cases h
/-- Neither equal nor above: below. -/
theorem kLt_of {a b : ByteArray} (h : a ≠ b) (h2 : kLt b a = false) : kLt a b = true := by
  rcases kLt_total h with q | q
  · exact q
  · rw [q] at h2; cases h2
theorem kLt_of_le {a b c : ByteArray} (h : kLt b a = false) (h2 : kLt b c = true) : kLt a c = true := by
  by_cases e : a = b
  · rw [e]; exact h2
  · exact kLt_trans (kLt_of e h) h2

/-! ### rising lists of pairs -/
abbrev Kv := ByteArray × Int
def Rise (l : List Kv) : Prop := l.Pairwise fun x y => kLt x.1 y.1 = true
def getL (l : List Kv) (k : ByteArray) : Option Int := (l.find? fun x => kEq x.1 k).map Prod.snd
def delL (l : List Kv) (k : ByteArray) : List Kv := l.filter fun x => !kEq x.1 k
def fromL (l : List Kv) (k : ByteArray) : List Kv := l.filter fun x => !kLt x.1 k
def putL13 (l : List Kv) (k : ByteArray) (v : Int) : List Kv := (l.filter fun x => kLt x.1 k) ++ (k, v) :: l.filter fun x => kLt k x.1
theorem rise_nil : Rise [] := List.Pairwise.nil
theorem rise_cons {x : Kv} {l : List Kv} : Rise (x :: l) ↔ (∀ y ∈ l, kLt x.1 y.1 = true) ∧ Rise l := List.pairwise_cons
theorem rise_app {a b : List Kv} : Rise (a ++ b) ↔ Rise a ∧ Rise b ∧ ∀ x ∈ a, ∀ y ∈ b, kLt x.1 y.1 = true := List.pairwise_append
theorem rise_filter {l : List Kv} (h : Rise l) (p : Kv → Bool) : Rise (l.filter p) := List.Pairwise.filter p h
theorem rise_del {l : List Kv} (h : Rise l) (k : ByteArray) : Rise (delL l k) := rise_filter h _
theorem rise_put {l : List Kv} (h : Rise l) (k : ByteArray) (v : Int) : Rise (putL13 l k v) := by
  refine rise_app.2 ⟨rise_filter h _, rise_cons.2 ⟨fun y hy => (List.mem_filter.1 hy).2, rise_filter h _⟩, fun x hx y hy => ?_⟩
  have h1 := (List.mem_filter.1 hx).2
  rcases List.mem_cons.1 hy with rfl | hy
  · exact h1
  · exact kLt_trans h1 (List.mem_filter.1 hy).2
/-- The list where it is parted at a key that is not in it. -/
theorem rise_part {l : List Kv} (h : Rise l) (k : ByteArray) : l = (l.filter fun x => kLt x.1 k) ++ (l.filter fun x => kEq x.1 k) ++ l.filter fun x => kLt k x.1 := by
  induction l with
  | nil => rfl
  | cons x l ih =>
    obtain ⟨h1, h2⟩ := rise_cons.1 h
    have ih := ih h2
    rcases e1 : kLt x.1 k with _ | _
    · have none : ∀ y ∈ l, kLt y.1 k = false := fun y hy => by
        cases q : kLt y.1 k with
        | false => rfl
        | true => rw [kLt_trans (h1 y hy) q] at e1; cases e1
      have n1 : (l.filter fun x => kLt x.1 k) = [] := List.filter_eq_nil_iff.2 fun y hy => by rw [none y hy]; exact Bool.false_ne_true
      rcases e2 : kEq x.1 k with _ | _
      · have e3 : kLt k x.1 = true := kLt_of (Ne.symm (kEq_no.1 e2)) e1
        have n2 : (l.filter fun x => kEq x.1 k) = [] := List.filter_eq_nil_iff.2 fun y hy => by
          rw [Bool.not_eq_true]
          exact kEq_no.2 (Ne.symm (kLt_ne (kLt_trans e3 (h1 y hy))))
        rw [n1, n2] at ih
        simp only [List.filter_cons, e1, e2, e3, if_true, Bool.false_eq_true, if_false, n1, n2, List.nil_append] at ih ⊢
        rw [← ih]
      · have e3 : kLt k x.1 = false := by rw [kEq_iff.1 e2]; exact kLt_irrefl k
        rw [n1] at ih
        simp only [List.filter_cons, e1, e2, e3, if_true, Bool.false_eq_true, if_false, n1, List.nil_append, List.cons_append] at ih ⊢
        rw [← ih]
    · have e2 : kEq x.1 k = false := kEq_no.2 (kLt_ne e1)
      have e3 : kLt k x.1 = false := kLt_asymm e1
      simp only [List.filter_cons, e1, e2, e3, if_true, Bool.false_eq_true, if_false, List.cons_append]
      rw [← ih]
#print axioms rise_part
end Go.Proofs.Ytkpgaejmhddkdaa
