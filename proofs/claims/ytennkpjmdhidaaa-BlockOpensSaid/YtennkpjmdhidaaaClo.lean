/-
  bytes.Clone, walked.
-/
import Derived.Test.YtennkpjmdhidaaaByt
import Derived.Lib.SliceRun
namespace Go.Proofs.Ytennkpjmdhidaaa
open Go.RowKit
set_option linter.unusedVariables false

/-! ### a copy -/
/-- A new row, nil or not. -/
def NewL (n : Nat) (z : Nat → Nat) (w : World) (e : Ending) (w' : World) : Prop := ∃ v, e = .returned v ∧ w'.ownsRow w.heap.size /-t-/5 1 v n (bytesL n z) ∧ Ch (fun _ => False) w w'
theorem eql_nil (w : World) (a : Option Addr) (n c : Nat) : (binOp .eql /-t-/22 (.slice a n c) (.slice none 0 0)).run Try.prog w = .ok (.bool a.isNone) w := Lib.run_eql_slice_nil w _ _ a n c 0 0 Try.underlying22
set_option maxHeartbeats 400000 in
theorem clone_nil (C : Nat) (w : World) (z : Nat → Nat) : Calls Try.prog 34 #[.slice none 0 C] w (NewL 0 z w) := by
  have q := eql_nil w none 0 C
  go_enter Try.func34, Try.ntmps34
  go_wp2
  go_ret
  exact ⟨_, rfl, World.ownsRow_nil _ _ _ _, Ch.refl _ _⟩
theorem none_owned (w : World) : (w.alloc (.cells #[] /-t-/5)).ownsRow w.heap.size /-t-/5 1 (.slice (some ⟨w.heap.size, 0, none⟩) 0 0) 0 (bytesL 0 fun _ => 0) :=
  ⟨rfl, Or.inr ⟨w.heap.size, 0, #[], rfl, Nat.le_refl _, heap_alloc_new w _, Nat.le_refl _, Nat.zero_le _, rfl, rfl⟩⟩
set_option maxHeartbeats 400000 in
theorem clone_some (ad : Addr) (n C : Nat) (z : Nat → Nat) (w : World) (h : RowV w (.slice (some ad) n C) n z) (hn : n ≤ 1048576) : Calls Try.prog 34 #[.slice (some ad) n C] w (NewL n z w) := by
  have hch0 := (Ch.refl (fun _ => False) w).alloc #[] /-t-/5
  obtain ⟨v1, w1, hr1, ho1, hg1, _⟩ := app_row (z := fun _ => 0) (none_owned w) (by simp) (h.gr hch0) (by omega)
  rw [Nat.zero_add, bytesL_congr (y := z) fun c hc => by unfold jnZ; rw [if_neg (by omega)]; rfl] at ho1
  have HR := Lib.hid hr1
  have HO := Lib.hid ho1
  have HC := Lib.hid (hch0.grown hg1 (fun i e => Or.inr (World.ownsRow.lt (none_owned w) i e).1))
  clear hr1 ho1 hg1 h hch0
  have q := eql_nil w (some ad) n C
  go_enter Try.func34, Try.ntmps34
  go_wp2_with (at_builtin; refine wpList_app_of _ rfl (.tmp 5) (.tmp 6) rfl rfl _ _ v1 w1 rfl rfl HR.out ?_)
  go_ret
  exact ⟨_, rfl, HO.out, HC.out⟩
theorem clone_any (A : Option Addr) (n C : Nat) (z : Nat → Nat) (w : World) (h : RowV w (.slice A n C) n z) (hn : n ≤ 1048576) : Calls Try.prog 34 #[.slice A n C] w (NewL n z w) := by
  cases A with
  | some ad => exact clone_some ad n C z w h hn
  | none =>
    obtain ⟨_, _, e, _, h2⟩ := h
    injection e with e1 _ _
    subst e1
    rcases Nat.eq_zero_or_pos n with rfl | q
    · exact clone_nil C w z
    · obtain ⟨_, _, e, _⟩ := h2 q
      cases e
#print axioms clone_any

end Go.Proofs.Ytennkpjmdhidaaa
