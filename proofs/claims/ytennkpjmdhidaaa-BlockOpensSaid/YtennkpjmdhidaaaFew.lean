/-
  Four bytes in a row, changed one after the other.
-/
import Derived.Test.YtennkpjmdhidaaaCrcS
import Derived.Test.YtennkpjmdhidaaaOpenB
namespace Go.Proofs.Ytennkpjmdhidaaa
open Go.RowKit
set_option linter.unusedVariables false

/-- The first k of four bytes from a on have been changed. -/
def fewZ (z y : Nat → Nat) (a k c : Nat) : Nat := if a ≤ c ∧ c < a + k then z c ^^^ y (c - a) else z c
def fewB (y : Nat → Nat) : Nat → Bool
  | 0 => false
  | k + 1 => fewB y k || (y k != 0)
theorem fewZ_none (z y : Nat → Nat) (a c : Nat) : fewZ z y a 0 c = z c := by unfold fewZ; rw [if_neg (by omega)]
theorem fewZ_at (z y : Nat → Nat) (a k : Nat) : fewZ z y a k (a + k) = z (a + k) := by unfold fewZ; rw [if_neg (by omega)]
theorem fewZ_step (z y : Nat → Nat) (a k c : Nat) : fewZ z y a (k + 1) c = if c = a + k then z (a + k) ^^^ y k else fewZ z y a k c := by
  unfold fewZ
  by_cases e : c = a + k
  · subst e; rw [if_pos (by omega), if_pos rfl, Nat.add_sub_cancel_left]
  · rw [if_neg e]
    by_cases q : a ≤ c ∧ c < a + k
    · rw [if_pos (by omega), if_pos q]
    · rw [if_neg (by omega), if_neg q]
theorem fewZ_b {z y : Nat → Nat} {a k n : Nat} (hz : Bytes n z) (hy : Bytes 4 y) (hk : k ≤ 4) : Bytes n (fewZ z y a k) := fun c hc => by
  unfold fewZ; split
  · exact Crc.xor_lt8 (hz c hc) (hy _ (by omega))
  · exact hz c hc
theorem fewB_four (y : Nat → Nat) : fewB y 4 = false ↔ y 0 = 0 ∧ y 1 = 0 ∧ y 2 = 0 ∧ y 3 = 0 := by
  simp [fewB, and_assoc]
theorem few_whole {n a : Nat} {z y : Nat → Nat} (hz : Bytes n z) (hy : Bytes 4 y) (ha : a ≤ n) : Crc.wholeB (n + 4) (fewZ (Crc.sealZ n z) y a 4) = !fewB y 4 := by
  obtain ⟨d, hd⟩ : ∃ d : Nat → Nat, d = fun c => if a ≤ c ∧ c < a + 4 then y (c - a) else 0 := ⟨_, rfl⟩
  have e : ∀ c, d c = if a ≤ c ∧ c < a + 4 then y (c - a) else 0 := fun c => by rw [hd]
  have d4 : ∀ j, j < 4 → d (a + j) = y j := fun j hj => by rw [e, if_pos (by omega), Nat.add_sub_cancel_left]
  have key := Crc.few (n := n) (at' := a) (z := z) (d := d) hz
    (fun i => by
      rw [e]; split
      · exact hy _ (by omega)
      · omega) ha (fun i hi => by rw [e, if_neg (by omega)])
  have d0 := d4 0 (by omega)
  rw [Nat.add_zero] at d0
  rw [d0, d4 1 (by omega), d4 2 (by omega), d4 3 (by omega), ← fewB_four] at key
  have e2 : Crc.wholeB (n + 4) (fewZ (Crc.sealZ n z) y a 4) = Crc.wholeB (n + 4) (fun i => Crc.sealZ n z i ^^^ d i) := Crc.wholeB_congr fun i _ => by
    unfold fewZ
    rw [e]
    split
    · rfl
    · rw [Nat.xor_zero]
  rw [e2]
  unfold Crc.wholeB
  cases hb : fewB y 4
  · exact decide_eq_true (key.2 hb)
  · exact decide_eq_false fun h => by rw [key.1 h] at hb; cases hb
theorem arr_at {y : Nat → Nat} {n j : Nat} (h : j < n) : (arrV n y)[j]? = some (.int .u8 (y j : Int)) := by
  have : (arrV n y)[j]? = (bytesL n y)[j]? := by unfold arrV; simp
  rw [this, bytesL_get h]
theorem xor_at {a b : Nat} (ha : a < 256) (hb : b < 256) : bits .xor .u8 (a : Int) (b : Int) = ((a ^^^ b : Nat) : Int) := u8_xor_nat a b ha hb
theorem wrap_small {x : Int} (h : 0 ≤ x) (h2 : x ≤ 4294967296) : IntKind.i64.wrap x = x := by rw [IntKind.wrap_i64]; omega
structure FewRel (w : World) (g n C : Nat) (z y : Nat → Nat) (a k : Nat) (wr : World) : Prop where
  own : wr.ownsRow w.heap.size /-t-/5 1 (.slice (some ⟨g, 0, none⟩) n C) n (bytesL n (fewZ z y a k))
  ch : Ch (fun _ => False) w wr
theorem FewRel.base_le {w : World} {g n C : Nat} {z y : Nat → Nat} {a k : Nat} {wr : World} (h : FewRel w g n C z y a k wr) : w.heap.size ≤ g := (World.ownsRow.lt h.own g rfl).1
theorem FewRel.drew {w : World} {g n C : Nat} {z y : Nat → Nat} {a k : Nat} {wr : World} (h : FewRel w g n C z y a k wr) : FewRel w g n C z y a k wr.drew := ⟨ownsRow_ch h.own (Ch.refl _ _).drew, h.ch.drew⟩
theorem FewRel.step {w : World} {g n C : Nat} {z y : Nat → Nat} {a k : Nat} {wr : World} (h : FewRel w g n C z y a k wr) :
    FewRel w g n C z y a (k + 1) (wr.setCell ⟨g, a + k, none⟩ (.int .u8 ((z (a + k) ^^^ y k : Nat) : Int))) := by
  refine ⟨?_, h.ch.setCell (p := ⟨g, a + k, none⟩) (Or.inr h.base_le) _⟩
  have := (World.ownsRow.stored h.own (a + k) (.int .u8 ((z (a + k) ^^^ y k : Nat) : Int))).1
  rw [bytesL_set] at this
  rw [bytesL_congr fun c _ => fewZ_step z y a k c]
  exact this
#print axioms few_whole
end Go.Proofs.Ytennkpjmdhidaaa
