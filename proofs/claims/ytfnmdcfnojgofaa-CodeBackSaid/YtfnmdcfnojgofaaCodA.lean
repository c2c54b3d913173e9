/-
  code.turn, turnBack, digits (a function to range over) and bytes.Clone, walked.
-/
import Derived.Test.YtfnmdcfnojgofaaRnd
import Derived.Test.YtfnmdcfnojgofaaCodM
import Derived.Lib.SliceRun
import Derived.Shelf.Abstract
import Derived.Deep.RegionHeld
namespace Go.Proofs.Ytfnmdcfnojgofaa
open Go.RowKit Cod
set_option linter.unusedVariables false

theorem wide_fn (f : FuncId) : Fence.wide.fn f = True := rfl
theorem wide_depth : Fence.wide.depth = none := rfl
attribute [local go_sem] Oper.semAt_some wide_fn wide_depth

/-! ### a copy -/
/-- A new row, nil or not. -/
def NewL (n : Nat) (z : Nat → Nat) (w : World) (e : Ending) (w' : World) : Prop := ∃ v, e = .returned v ∧ w'.ownsRow w.heap.size /-t-/5 1 v n (bytesL n z) ∧ Ch (fun _ => False) w w'
theorem eql_nil (w : World) (a : Option Addr) (n c : Nat) : (binOp .eql /-t-/26 (.slice a n c) (.slice none 0 0)).run Try.prog w = .ok (.bool a.isNone) w := Lib.run_eql_slice_nil w _ _ a n c 0 0 Try.underlying26
set_option maxHeartbeats 400000 in
theorem clone_nil (C : Nat) (w : World) (z : Nat → Nat) : Calls Try.prog 28 #[.slice none 0 C] w (NewL 0 z w) := by
  have q := eql_nil w none 0 C
  go_enter Try.func28, Try.ntmps28
  go_wp2
  go_ret
  exact ⟨_, rfl, World.ownsRow_nil _ _ _ _, Ch.refl _ _⟩
theorem none_owned (w : World) : (w.alloc (.cells #[] /-t-/5)).ownsRow w.heap.size /-t-/5 1 (.slice (some ⟨w.heap.size, 0, none⟩) 0 0) 0 (bytesL 0 fun _ => 0) :=
  ⟨rfl, Or.inr ⟨w.heap.size, 0, #[], rfl, Nat.le_refl _, heap_alloc_new w _, Nat.le_refl _, Nat.zero_le _, rfl, rfl⟩⟩
set_option maxHeartbeats 400000 in
theorem clone_some (ad : Addr) (n C : Nat) (z : Nat → Nat) (w : World) (h : RowV w (.slice (some ad) n C) n z) (hn : n ≤ 1048576) : Calls Try.prog 28 #[.slice (some ad) n C] w (NewL n z w) := by
  have hch0 := (Ch.refl (fun _ => False) w).alloc #[] /-t-/5
  obtain ⟨v1, w1, hr1, ho1, hg1, _⟩ := app_row (z := fun _ => 0) (none_owned w) (by simp) (h.gr hch0) (by omega)
  rw [Nat.zero_add, bytesL_congr (y := z) fun c hc => by unfold jnZ; rw [if_neg (by omega)]; rfl] at ho1
  have HR := Lib.hid hr1
  have HO := Lib.hid ho1
  have HC := Lib.hid (hch0.grown hg1 (fun i e => Or.inr (World.ownsRow.lt (none_owned w) i e).1))
  clear hr1 ho1 hg1 h hch0
  have q := eql_nil w (some ad) n C
  go_enter Try.func28, Try.ntmps28
  go_wp2_with (at_builtin; refine wpList_app_of _ rfl (.tmp 5) (.tmp 6) rfl rfl _ _ v1 w1 rfl rfl HR.out ?_)
  go_ret
  exact ⟨_, rfl, HO.out, HC.out⟩
theorem clone_any (A : Option Addr) (n C : Nat) (z : Nat → Nat) (w : World) (h : RowV w (.slice A n C) n z) (hn : n ≤ 1048576) : Calls Try.prog 28 #[.slice A n C] w (NewL n z w) := by
  cases A with
  | some ad => exact clone_some ad n C z w h hn
  | none =>
    obtain ⟨_, _, e, _, h2⟩ := h
    injection e with e1 _ _
    subst e1
    rcases Nat.eq_zero_or_pos n with rfl | q
    · exact clone_nil C w z
    · obtain ⟨_, _, e, _⟩ := h2 q
      cases e
#print axioms clone_any

/-! ### others' turn -/
theorem turn_neg {n : Int} (h : n < 0) : (turnZ n : Int) = 2 * (-(n + 1)) + 1 := by unfold turnZ; rw [if_pos h]; omega
theorem turn_pos {n : Int} (h : ¬ n < 0) : (turnZ n : Int) = 2 * n := by unfold turnZ; rw [if_neg h]; omega
set_option maxHeartbeats 400000 in
theorem turn_any (n : Int) (h1 : -9223372036854775808 ≤ n) (h2 : n ≤ 9223372036854775807) (w : World) : Calls Try.prog 35 #[.int .i64 n] w fun e w' => e = .returned (.int .u64 (turnZ n : Int)) ∧ w = w' := by
  by_cases h : n < 0
  · have HE := Lib.hid (turn_neg h)
    go_enter Try.func35, Try.ntmps35
    go_wp2
    go_ret
    exact ⟨ret_int (by rw [HE.out]), rfl⟩
  · have HE := Lib.hid (turn_pos h)
    go_enter Try.func35, Try.ntmps35
    go_wp2
    go_ret
    exact ⟨ret_int (by rw [HE.out]), rfl⟩
#print axioms turn_any
theorem back_odd {v : Nat} (h : v % 2 = 1) : backZ v = -((v : Int) / 2) - 1 := by unfold backZ; rw [if_pos h]; omega
theorem back_even {v : Nat} (h : ¬ v % 2 = 1) : backZ v = (v : Int) / 2 := by unfold backZ; rw [if_neg h]; omega
set_option maxHeartbeats 400000 in
theorem turnBack_any (v : Nat) (h1 : v < 18446744073709551616) (w : World) : Calls Try.prog 32 #[.int .u64 (v : Int)] w fun e w' => e = .returned (.int .i64 (backZ v)) ∧ w = w' := by
  by_cases h : v % 2 = 1
  · have HE := Lib.hid (back_odd h)
    have t1 : ((v : Int) % 2 == 1) = true := by simp; omega
    clear h
    go_enter Try.func32, Try.ntmps32
    go_wp2
    go_ret
    exact ⟨ret_int (by rw [HE.out]), rfl⟩
  · have HE := Lib.hid (back_even h)
    have t1 : ((v : Int) % 2 == 1) = false := by simp; omega
    clear h
    go_enter Try.func32, Try.ntmps32
    go_wp2
    go_ret
    exact ⟨ret_int (by rw [HE.out]), rfl⟩
#print axioms turnBack_any

/-! ### digits, as they are laid -/
theorem digits_any (n : Nat) (w : World) : Calls Try.prog 37 #[.int .u64 (n : Int)] w fun e w' => e = .returned (.func (.func 39) #[] #[.pointer (some ⟨w.heap.size, 0, none⟩)]) ∧ w.alloc (.cells #[.int .u64 (n : Int)] 59) = w' := by
  go_enter Try.func37, Try.ntmps37
  go_wp2
  go_ret
  exact ⟨rfl, rfl⟩
#print axioms digits_any
abbrev Byte := { x : Nat // x < 256 }
def raw (l : List Byte) : List Nat := l.map (·.1)
theorem raw_snoc (l : List Byte) (x : Byte) : raw (l ++ [x]) = raw l ++ [x.1] := by simp [raw]
set_option maxHeartbeats 1000000 in
set_option maxRecDepth 100000 in
theorem digs1_in (m : Nat) (hm : 1 ≤ m) (l Bs n N : Nat) (hn : n < 18446744073709551616) (hN : N = (digs n).length) (J Jx : List Byte → World → Prop)
    (hY : ∀ pre x W, J pre W → pre.length < N → YieldAt Fence.wide (m - 1) Try.prog l #[.int .u8 (x.1 : Int)] W fun e W' =>
      (e = .returned (.bool true) ∧ J (pre ++ [x]) W' ∧ True) ∨ (e = .returned (.bool false) ∧ Jx (pre ++ [x]) W'))
    (W : World) (hB : W.cell? ⟨Bs, 0, none⟩ = some (.int .u64 (n : Int))) (h0 : J [] W) :
    CallsIn Fence.wide m Try.prog 39 #[.func (.yield l) #[] #[], .pointer (some ⟨Bs, 0, none⟩)] W fun e W' => (∃ v, e = .returned v) ∧
      ((∃ ys, raw ys = digs n ∧ J ys W') ∨ (∃ pre, True ∧ Jx pre W')) := by
  have HN := Lib.hid hN
  have HL := Lib.hid hn
  clear hN
  refine callsIn_of_wp Try.func39 rfl trivial ?_ rfl
  simp only [Try.ntmps39, List.size_toArray, List.length_cons, List.length_nil, Nat.reduceAdd, Nat.reduceSub, Array.replicate_succ, Array.replicate_zero, List.push_toArray, List.append_toArray, List.nil_append, List.cons_append]
  gi_wp2
  gi_loopw [3] (fun p wr => ∃ (pre : List Byte) (r : Nat), p = .int .u64 (r : Int) ∧ r ≤ n ∧ Hid (digs n = raw pre ++ digs r) ∧ J pre wr) (fun p _ => (intOf p).toNat)
  case atStart => exact ⟨[], n, rfl, Nat.le_refl _, rfl, h0⟩
  case round =>
    obtain ⟨pre, r, rfl, hrn, HD, hJ⟩ := hrel
    by_cases hlt : r < 128
    · have hlen : pre.length < N := by
        rw [HN.out, HD.out, digs_small hlt]; simp [raw]
      obtain ⟨fn, tmps, assign, body, hy, hR⟩ := hY pre ⟨r, by omega⟩ wr hJ hlen
      have HF := Lib.hid (show raw (pre ++ [⟨r, by omega⟩]) = digs n by rw [raw_snoc, HD.out, digs_small hlt])
      dsimp only at hy
      clear hlen
      gi_wp2
      refine hR.mono ?_
      rintro e W3 (⟨rfl, hJ3, _⟩ | ⟨rfl, hJx3⟩)
      · gi_wp2
        go_end0
        exact ⟨⟨_, rfl⟩, .inl ⟨_, HF.out, hJ3⟩⟩
      · gi_wp2
        go_end0
        exact ⟨⟨_, rfl⟩, .inr ⟨_, trivial, hJx3⟩⟩
    · have hlen : pre.length < N := by
        rw [HN.out, HD.out, digs_big (by omega)]; simp [raw]
      obtain ⟨fn, tmps, assign, body, hy, hR⟩ := hY pre ⟨r % 128 + 128, by omega⟩ wr hJ hlen
      have HF := Lib.hid (show digs n = raw (pre ++ [⟨r % 128 + 128, by omega⟩]) ++ digs (r / 128) by rw [raw_snoc, HD.out, digs_big (by omega), List.append_assoc]; rfl)
      have hy' : (Instr.yield l #[.int .u8 ((r : Int) % 128 + 128)]).run Try.prog wr = .ok (.round l fn tmps assign body) wr := by simpa using hy
      clear hlen hy
      gi_wp2
      refine hR.mono ?_
      rintro e W3 (⟨rfl, hJ3, _⟩ | ⟨rfl, hJx3⟩)
      · gi_wp2
        go_roundw
        case rel => exact ⟨_, r / 128, by simp, by omega, HF, hJ3⟩
        case measure => simp [intOf]; omega
      · gi_wp2
        refine bodyPost_ret (results_none rfl _ _ _) rfl ?_
        exact ⟨⟨_, rfl⟩, .inr ⟨_, trivial, hJx3⟩⟩
#print axioms digs1_in
theorem digs_stops (m : Nat) (hm : 1 ≤ m) (Bs n : Nat) (hn : n < 18446744073709551616) (w : World) (hBs : Bs < w.heap.size) (hc : w.cell? ⟨Bs, 0, none⟩ = some (.int .u64 (n : Int))) :
    SeqStopsK Fence.wide m Try.prog 39 #[.pointer (some ⟨Bs, 0, none⟩)] (fun x : Byte => #[Value.int .u8 (x.1 : Int)]) (fun _ _ => True) (fun ys => raw ys = digs n) (fun _ => True) (digs n).length w :=
  fun l J Jx W hW _ _ hY h0 => digs1_in m hm l Bs n _ hn rfl J Jx hY W ((hW.cell (p := ⟨Bs, 0, none⟩) hBs).trans hc) h0
#print axioms digs_stops
end Go.Proofs.Ytfnmdcfnojgofaa
