/-
  The calls of mat that make and go through rows, walked: count, blank, turnRows, pivot, May; and the document's May, Few, Same.
-/
import Derived.Test.YtlgdajmidcdiaaaMem
import Derived.Deep.LoopGhost
namespace Go.Proofs.Ytlgdajmidcdiaaa
open Go.RowKit
set_option linter.unusedVariables false

theorem ret_bool {a b : Bool} (h : a = b) : Ending.returned (.bool a) = .returned (.bool b) := by rw [h]
def cntB (n : Int) : Bool := decide (1 ≤ n ∧ n ≤ 64)
theorem count_any (n : Int) (w : World) : Calls Try.prog 39 #[.int .i64 n] w fun e w' => e = .returned (.bool (cntB n)) ∧ w = w' := by
  by_cases h1 : 1 ≤ n
  · by_cases h2 : n ≤ 64
    · have H := Lib.hid (show true = cntB n by simp [cntB, h1, h2])
      go_enter Try.func39, Try.ntmps39
      go_wp2
      go_ret
      exact ⟨ret_bool H.out, rfl⟩
    · have H := Lib.hid (show false = cntB n by simp [cntB, h1, h2])
      have h2' : decide (n ≤ 64) = false := by simpa using h2
      go_enter Try.func39, Try.ntmps39
      go_wp2
      go_ret
      exact ⟨ret_bool H.out, rfl⟩
  · have H := Lib.hid (show false = cntB n by simp [cntB, h1])
    have h1' : decide (1 ≤ n) = false := by simpa using h1
    go_enter Try.func39, Try.ntmps39
    go_wp2
    go_ret
    exact ⟨ret_bool H.out, rfl⟩

/-! ### blank -/
theorem Try.info33 : (Try.prog.info? 33).map (fun i => (i.zero, i.size, i.bytes)) = some (some (.slice none 0 0), 1, 24) := by kernel_rfl
theorem Try.info5 : (Try.prog.info? 5).map (fun i => (i.zero, i.size, i.bytes)) = some (some (.int .u8 0), 1, 1) := by kernel_rfl
/-- The new matrix's own row, when k of its rows are made. -/
def topv (g m k : Nat) (j : Nat) : Value := if j < k then .slice (some ⟨g + 1 + j, 0, none⟩) m m else .slice none 0 0
structure BlankRel (w : World) (n m k : Nat) (wr : World) : Prop where
  size : wr.heap.size = w.heap.size + 1 + k
  top : wr.rowIs w.heap.size /-t-/33 n (topv w.heap.size m k)
  row : ∀ r, r < k → wr.rowIs (w.heap.size + 1 + r) /-t-/5 m (fun _ => .int .u8 0)
  ch : Ch (fun _ => False) w wr
theorem BlankRel.start (w : World) (n m : Nat) : BlankRel w n m 0 (w.alloc (.cells (madeCells #[.slice none 0 0] n) /-t-/33)) :=
  ⟨by simp, (World.rowIs_made w _ n _).congr fun j _ => by simp [topv], fun r hr => absurd hr (Nat.not_lt_zero _), (Ch.refl _ _).alloc _ _⟩
theorem BlankRel.step {w : World} {n m k : Nat} {wr : World} (h : BlankRel w n m k wr) :
    BlankRel w n m (k + 1) ((wr.alloc (.cells (madeCells #[.int .u8 0] m) /-t-/5)).setCell ⟨w.heap.size, k, none⟩ (.slice (some ⟨w.heap.size + 1 + k, 0, none⟩) m m)) := by
  have hnew := World.rowIs_made wr (.int .u8 0) m /-t-/5
  rw [h.size] at hnew
  refine ⟨by simp [h.size]; omega, ((h.top.alloc _).set k _).congr fun j _ => ?_, fun r hr => ?_, (h.ch.alloc _ _).setCell (Or.inr (Nat.le_refl _)) _⟩
  · unfold topv
    by_cases e : j = k
    · subst e; simp
    · rw [if_neg e]
      by_cases hlt : j < k
      · rw [if_pos hlt, if_pos (by omega)]
      · rw [if_neg hlt, if_neg (by omega)]
  · by_cases e : r = k
    · subst e; exact hnew.setOther (by show w.heap.size + 1 + r ≠ w.heap.size; omega) _
    · exact ((h.row r (by omega)).alloc _).setOther (by show w.heap.size + 1 + r ≠ w.heap.size; omega) _
theorem BlankRel.own {w : World} {n m : Nat} {wr : World} (h : BlankRel w n m n wr) : Own wr w.heap.size n m (fun r => w.heap.size + 1 + r) (fun _ _ => 0) :=
  ⟨h.top.congr fun j hj => by unfold topv; rw [if_pos hj], fun r hr => h.row r hr, fun r s _ _ e => by have e' : w.heap.size + 1 + r = w.heap.size + 1 + s := e; omega, fun r _ => by show w.heap.size + 1 + r ≠ w.heap.size; omega, fun _ _ _ _ => by show 0 < 256; omega⟩
def BlankPost (w : World) (n m : Nat) (e : Ending) (w' : World) : Prop :=
  e = .returned (.slice (some ⟨w.heap.size, 0, none⟩) n n) ∧ Own w' w.heap.size n m (fun r => w.heap.size + 1 + r) (fun _ _ => 0) ∧ Ch (fun _ => False) w w'
set_option maxHeartbeats 800000 in
theorem blank_any (n m : Int) (n0 : 0 ≤ n) (n1 : n ≤ 64) (m0 : 0 ≤ m) (m1 : m ≤ 8192) (w : World) : Calls Try.prog 34 #[.int .i64 n, .int .i64 m] w (BlankPost w n.toNat m.toNat) := by
  obtain ⟨n, rfl⟩ := Int.eq_ofNat_of_zero_le n0
  obtain ⟨m, rfl⟩ := Int.eq_ofNat_of_zero_le m0
  rw [Int.toNat_natCast, Int.toNat_natCast]
  have hmk1 := run_make_row' (P := Try.prog) 22 33 (.slice none 0 0) 24 Try.underlying22 Try.info33 rfl .i64 .i64 n (by omega) (by omega)
  have hmk2 := run_make_row' (P := Try.prog) 33 5 (.int .u8 0) 1 Try.underlying33 Try.info5 rfl .i64 .i64 m (by omega) (by omega)
  have h0 := BlankRel.start w n m
  go_enter Try.func34, Try.ntmps34
  go_wp2
  go_loopw [11, 6] (fun i _ wr => ∃ k : Nat, k ≤ n ∧ i = .int .i64 k ∧ BlankRel w n m k wr) (fun i _ _ => n - (intOf i).toNat)
  case atStart => exact ⟨0, Nat.zero_le _, rfl, h0⟩
  case round =>
    obtain ⟨k, hk, rfl, hrel⟩ := hrel
    by_cases hlt : k < n
    · have hsize := hrel.size
      have c1 : ∀ o, (wr.alloc o).cell? ⟨w.heap.size, k, none⟩ = some (topv w.heap.size m k k) := fun o => (hrel.top.alloc o).cell hlt
      have f1 : ∀ o, (wr.alloc o).frozen? ⟨w.heap.size, k, none⟩ = false := fun o => (hrel.top.alloc o).frozen k
      have hnext := hrel.step
      go_wp2
      go_roundw
      case rel => exact ⟨k + 1, by omega, by go_num, hnext⟩
      case measure => simp [intOf]; omega
    · have HE := Lib.hid (show k = n by omega)
      go_wp2
      go_ret
      rw [HE.out] at hrel
      exact ⟨rfl, hrel.own, hrel.ch⟩
#print axioms blank_any
end Go.Proofs.Ytlgdajmidcdiaaa
