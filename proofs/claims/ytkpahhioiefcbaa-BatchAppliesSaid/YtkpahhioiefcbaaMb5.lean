/-
  code.digitsOf (a function tto range over) and number, walked.
-/
import Derived.Test.YtkpahhioiefcbaaMb4
namespace Go.Proofs.Ytkpahhioiefcbaa
open Go.RowKit Go.Shelf Cod
set_option linter.unusedVariables false
set_option maxRecDepth 100000
attribute [local go_sem] Oper.semAt_some wide_fn wide_depth

/-! ### digitsOf -/
theorem digitsOf_any (A : Option Addr) (n C : Nat) (w : World) : Calls Try.prog 61 #[.slice A n C] w fun e w' => e = .returned (.func (.func 72) #[] #[.pointer (some ⟨w.heap.size, 0, none⟩)]) ∧ w.alloc (.cells #[.slice A n C] /-t-/22) = w' := by
  go_enter Try.func61, Try.ntmps61
  go_wp2
  go_ret
  exact ⟨rfl, rfl⟩
#print axioms digitsOf_any
theorem Off.at {S : Nat → Prop} {b o n C : Nat} (h : Off S (.slice (some ⟨b, o, none⟩) n C)) (hn : 0 < n) : ¬ S b := h b o (n - 1) C (by rw [Nat.sub_add_cancel hn])
abbrev Dig := { p : Nat × Bool // p.1 < 128 }
/-- The digit that stands at j. -/
def dig (z : Nat → Nat) (j : Nat) : Dig := ⟨(z j % 128, decide (z j < 128)), Nat.mod_lt _ (by omega)⟩
def upto (z : Nat → Nat) (k : Nat) : List Dig := (List.range k).map (dig z)
theorem upto_succ (z : Nat → Nat) (k : Nat) : upto z (k + 1) = upto z k ++ [dig z k] := by simp [upto, List.range_succ]
theorem upto_len (z : Nat → Nat) (k : Nat) : (upto z k).length = k := by simp [upto]
set_option maxHeartbeats 1000000 in
set_option maxRecDepth 100000 in
theorem digsOf1_in (m : Nat) (hm : 1 ≤ m) (l Bs n₀ n C : Nat) (A : Option Addr) (z : Nat → Nat) (J Jx : List Dig → World → Prop)
    (hY : ∀ pre x W, J pre W → pre.length < n → YieldAt Fence.wide (m - 1) Try.prog l #[.int .u64 (x.1.1 : Int), .bool x.1.2] W fun e W' =>
      (e = .returned (.bool true) ∧ J (pre ++ [x]) W' ∧ Below n₀ W W') ∨ (e = .returned (.bool false) ∧ Jx (pre ++ [x]) W'))
    (W : World) (hB : W.cell? ⟨Bs, 0, none⟩ = some (.slice A n C)) (hR : RowV W (.slice A n C) n z) (ho : Off (fun i => n₀ ≤ i) (.slice A n C)) (h0 : J [] W) :
    CallsIn Fence.wide m Try.prog 72 #[.func (.yield l) #[] #[], .pointer (some ⟨Bs, 0, none⟩)] W fun e W' => (∃ v, e = .returned v) ∧
      ((∃ ys, (∃ k, k ≤ n ∧ ys = upto z k ∧ (k = n ∨ ∃ j, j < k ∧ z j < 128)) ∧ J ys W') ∨ (∃ pre, (∃ k, k < n ∧ pre = upto z (k + 1)) ∧ Jx pre W')) := by
  obtain ⟨_, _, e0, hl, h3⟩ := id hR
  injection e0 with e0 _ e1
  subst e0
  subst e1
  have hl1 := hl.1
  clear hl
  have HR := Lib.hid hR
  have HO := Lib.hid ho
  have H3 := Lib.hid h3
  clear hR ho h3
  refine callsIn_of_wp Try.func72 rfl trivial ?_ rfl
  simp only [Try.ntmps72, List.size_toArray, List.length_cons, List.length_nil, Nat.reduceAdd, Nat.reduceSub, Array.replicate_succ, Array.replicate_zero, List.push_toArray, List.append_toArray, List.nil_append, List.cons_append]
  gi_wp2
  gi_loopw [8] (fun i wr => ∃ k : Nat, k ≤ n ∧ i = .int .i64 k ∧ Hid (∀ j, j < k → 128 ≤ z j) ∧ J (upto z k) wr ∧ Below n₀ W wr) (fun i _ => n - (intOf i).toNat)
  case atStart => exact ⟨0, Nat.zero_le _, rfl, fun j hj => absurd hj (Nat.not_lt_zero j), h0, Below.refl _ _⟩
  case round =>
    obtain ⟨k, hk, rfl, HZ, hJ, hb⟩ := hrel
    by_cases hlt : k < n
    · obtain ⟨b, o, rfl, hc⟩ := H3.out (by omega)
      have hbn : b < n₀ := Nat.lt_of_not_le (HO.out.at (by omega))
      have c1 : wr.cell? ⟨b, o + k, none⟩ = some (.int .u8 (z k : Int)) := (hb.cell (p := ⟨b, o + k, none⟩) hbn).trans (hc k hlt).1
      have hz := (hc k hlt).2
      obtain ⟨fn, tmps, assign, body, hy, hR⟩ := hY (upto z k) (dig z k) wr hJ (by rw [upto_len]; omega)
      rw [← upto_succ] at hR
      clear hc hbn hY
      by_cases hlast : z k < 128
      · have hy' : (Instr.yield l #[.int .u64 ((z k : Int) % 128), .bool true]).run Try.prog wr = .ok (.round l fn tmps assign body) wr := by
          have e : dig z k = ⟨(z k % 128, true), Nat.mod_lt _ (by omega)⟩ := by unfold dig; simp [hlast]
          rw [e] at hy
          simpa using hy
        have t1 : decide ((z k : Int) < 128) = true := by simp; omega
        have HD := Lib.hid (show ∃ m, m ≤ n ∧ upto z (k + 1) = upto z m ∧ (m = n ∨ ∃ j, j < m ∧ z j < 128) from ⟨k + 1, hlt, rfl, Or.inr ⟨k, by omega, hlast⟩⟩)
        have HP := Lib.hid (show ∃ m, m < n ∧ upto z (k + 1) = upto z (m + 1) from ⟨k, hlt, rfl⟩)
        clear hy hlast
        gi_wp2
        refine hR.mono ?_
        rintro e W3 (⟨rfl, hJ3, hk3⟩ | ⟨rfl, hJx3⟩)
        · gi_wp2
          refine bodyPost_ret (results_none rfl _ _ _) rfl ?_
          exact ⟨⟨_, rfl⟩, .inl ⟨_, HD.out, hJ3⟩⟩
        · gi_wp2
          refine bodyPost_ret (results_none rfl _ _ _) rfl ?_
          exact ⟨⟨_, rfl⟩, .inr ⟨_, HP.out, hJx3⟩⟩
      · have hy' : (Instr.yield l #[.int .u64 ((z k : Int) % 128), .bool false]).run Try.prog wr = .ok (.round l fn tmps assign body) wr := by
          have e : dig z k = ⟨(z k % 128, false), Nat.mod_lt _ (by omega)⟩ := by unfold dig; simp [hlast]
          rw [e] at hy
          simpa using hy
        have t1 : decide ((z k : Int) < 128) = false := by simp; omega
        have HP := Lib.hid (show ∃ m, m < n ∧ upto z (k + 1) = upto z (m + 1) from ⟨k, hlt, rfl⟩)
        have HZ2 : Hid (∀ j, j < k + 1 → 128 ≤ z j) := fun j hj => by
          by_cases e : j = k
          · rw [e]; omega
          · exact HZ j (by omega)
        clear hy hlast
        gi_wp2
        refine hR.mono ?_
        rintro e W3 (⟨rfl, hJ3, hk3⟩ | ⟨rfl, hJx3⟩)
        · gi_wp2
          go_roundw
          case rel => exact ⟨k + 1, by omega, by go_num, HZ2, hJ3, hb.trans hk3⟩
          case measure => simp [intOf]; omega
        · gi_wp2
          refine bodyPost_ret (results_none rfl _ _ _) rfl ?_
          exact ⟨⟨_, rfl⟩, .inr ⟨_, HP.out, hJx3⟩⟩
    · obtain rfl : k = n := by omega
      have HD := Lib.hid (show ∃ m, m ≤ k ∧ upto z k = upto z m ∧ (m = k ∨ ∃ j, j < m ∧ z j < 128) from ⟨k, Nat.le_refl _, rfl, Or.inl rfl⟩)
      gi_wp2
      go_end0
      exact ⟨⟨_, rfl⟩, .inl ⟨_, HD.out, hJ⟩⟩
#print axioms digsOf1_in
theorem digsOf_stops (m : Nat) (hm : 1 ≤ m) (Bs n₀ n C : Nat) (A : Option Addr) (z : Nat → Nat) (w : World) (hBs : Bs < w.heap.size) (hc : w.cell? ⟨Bs, 0, none⟩ = some (.slice A n C)) (hR : RowV w (.slice A n C) n z) (ho : Off (fun i => n₀ ≤ i) (.slice A n C)) :
    SeqStopsK Fence.wide m Try.prog 72 #[.pointer (some ⟨Bs, 0, none⟩)] (fun x : Dig => #[Value.int .u64 (x.1.1 : Int), Value.bool x.1.2]) (Below n₀)
      (fun ys => ∃ k, k ≤ n ∧ ys = upto z k ∧ (k = n ∨ ∃ j, j < k ∧ z j < 128)) (fun pre => ∃ k, k < n ∧ pre = upto z (k + 1)) n w :=
  fun l J Jx W hW _ _ hY h0 => digsOf1_in m hm l Bs n₀ n C A z J Jx hY W ((hW.cell (p := ⟨Bs, 0, none⟩) hBs).trans hc) (hR.off (Below.ch hW (fun i => w.heap.size ≤ i)) hR.low) ho h0
#print axioms digsOf_stops
end Go.Proofs.Ytkpahhioiefcbaa
