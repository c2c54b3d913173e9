/-
  (*code.Out).Num, Int, Bytes and All, walked. code.digitsOf (a function to range over) and number, walked.
-/
import Derived.Test.YtjdknebifcdicaaMg17
namespace Go.Proofs.Ytjdknebifcdicaa
open Go.RowKit Go.Shelf Cod
set_option linter.unusedVariables false
set_option maxRecDepth 100000

/-! ### rows that lie off some blocks -/
def Off (S : Nat → Prop) (x : Value) : Prop := ∀ b o n C, x = .slice (some ⟨b, o, none⟩) (n + 1) C → ¬ S b
theorem Off.mono {S T : Nat → Prop} {x : Value} (h : Off S x) (k : ∀ i, T i → S i) : Off T x := fun b o n C e t => h b o n C e (k b t)
theorem RowV.off {S : Nat → Prop} {w w' : World} {x : Value} {l : Nat} {z : Nat → Nat} (h : RowV w x l z) (k : Ch S w w') (hS : Off S x) : RowV w' x l z := by
  obtain ⟨A, C, rfl, h2, h3⟩ := h
  refine ⟨A, C, rfl, h2, fun hl => ?_⟩
  obtain ⟨b, o, rfl, hc⟩ := h3 hl
  refine ⟨b, o, rfl, fun c hcl => ⟨k.cell (hc c hcl).1 ?_, (hc c hcl).2⟩⟩
  obtain ⟨n, rfl⟩ : ∃ n, l = n + 1 := ⟨l - 1, by omega⟩
  exact hS b o n C rfl
theorem RowV.low {w : World} {x : Value} {l : Nat} {z : Nat → Nat} (h : RowV w x l z) : Off (fun i => w.heap.size ≤ i) x := fun b o n C e t => by
  obtain ⟨A, D, e1, _, h3⟩ := h
  rw [e] at e1
  injection e1 with e1 e2 _
  obtain ⟨b', o', e4, hc⟩ := h3 (by omega)
  rw [← e1] at e4
  injection e4 with e4
  injection e4 with e5 e6
  have := World.block_lt_of_cell? _ _ (hc 0 (by omega)).1
  simp at this
  omega
def rowL (l : Nat) (z : Nat → Nat) : List Nat := (List.range l).map z
theorem rowL_len (l : Nat) (z : Nat → Nat) : (rowL l z).length = l := by simp [rowL]
theorem rowL_b {l : Nat} {z : Nat → Nat} (h : Bytes l z) : ∀ x ∈ rowL l z, x < 256 := fun x hx => by
  obtain ⟨c, hc, rfl⟩ := List.mem_map.1 hx
  exact h c (List.mem_range.1 hc)
theorem app_lit (L : List Nat) (l : Nat) (z : Nat → Nat) : bytesL (L.length + l) (jnZ L.length (Cod.litZ L) z) = bytesL (L ++ rowL l z).length (Cod.litZ (L ++ rowL l z)) := by
  rw [List.length_append, rowL_len]
  refine bytesL_congr fun c hc => ?_
  rw [← litZ_app]
  unfold jnZ
  split
  · rfl
  · exact (litZ_range l z (by omega)).symm

/-! ### Num, Int -/
set_option maxHeartbeats 400000 in
theorem onum_nil (n : Int) (w : World) : Calls Try.prog 49 #[.pointer none, .int .i64 n] w fun e w' => e = .returned (.int .i64 1) ∧ w = w' := by
  go_enter Try.func49, Try.ntmps49
  go_wp2
  go_ret
  exact ⟨rfl, rfl⟩
set_option maxHeartbeats 400000 in
theorem onum_neg (ad : Addr) (n : Int) (hn : n < 0) (w : World) : Calls Try.prog 49 #[.pointer (some ad), .int .i64 n] w fun e w' => e = .returned (.int .i64 1) ∧ w = w' := by
  have t1 : decide (n < 0) = true := by simpa using hn
  go_enter Try.func49, Try.ntmps49
  go_wp2
  go_ret
  exact ⟨rfl, rfl⟩
set_option maxHeartbeats 400000 in
theorem onum_any (base B n : Nat) (v : Value) (L : List Nat) (w : World) (hn : n ≤ 9223372036854775807) (h : OutIs base w B v L) (hb : base ≤ w.heap.size) (hL : L.length ≤ 1000000) :
    Calls Try.prog 49 #[.pointer (some ⟨B, 0, none⟩), .int .i64 (n : Int)] w (PutPost base B v (L ++ digs n) (.int .i64 0) w) := by
  have H := Lib.hid (put_any base B n v L w (by omega) h hb hL)
  have t1 : decide ((n : Int) < 0) = false := by simp
  clear h
  go_enter Try.func49, Try.ntmps49
  go_wp2_with fail
  refine H.out.mono ?_
  rintro e w' ⟨rfl, h⟩
  have HH := Lib.hid h
  clear h
  go_wp2
  go_ret
  exact ⟨rfl, HH.out⟩
#print axioms onum_any
/-! ### Bytes -/
/-- What bytes are laid as. -/
def byL (l : Nat) (z : Nat → Nat) : List Nat := digs l ++ rowL l z
theorem byL_app (L : List Nat) (l : Nat) (z : Nat → Nat) : L ++ digs l ++ rowL l z = L ++ byL l z := List.append_assoc _ _ _
theorem byL_len {l : Nat} (h : l ≤ 4096) (z : Nat → Nat) : (byL l z).length ≤ 4106 := by
  unfold byL
  have := digs_len10 (n := l) (by omega)
  rw [List.length_append, rowL_len]
  omega
/-! ### All -/
set_option maxHeartbeats 400000 in
theorem all_nil (w : World) : Calls Try.prog 50 #[.pointer none] w fun e w' => e = .returned (.slice none 0 0) ∧ w = w' := by
  go_enter Try.func50, Try.ntmps50
  go_wp2
  go_ret
  exact ⟨rfl, rfl⟩
set_option maxHeartbeats 400000 in
theorem all_any (base B : Nat) (v : Value) (L : List Nat) (w : World) (h : OutIs base w B v L) (hL : L.length ≤ 1048576) : Calls Try.prog 50 #[.pointer (some ⟨B, 0, none⟩)] w (NewL L.length (Cod.litZ L) w) := by
  have hr := h.rowV hL
  have c1 := h.cell
  obtain ⟨A, C, rfl, _⟩ := id hr
  have HR := Lib.hid (clone_any A L.length C (Cod.litZ L) w hr hL)
  clear hr h
  go_enter Try.func50, Try.ntmps50
  go_wp2_with fail
  refine HR.out.mono ?_
  rintro e w' ⟨x, rfl, h1, h2⟩
  have H1 := Lib.hid h1
  have H2 := Lib.hid h2
  clear h1 h2
  go_wp2
  go_ret
  exact ⟨_, rfl, H1.out, H2.out⟩
#print axioms all_any
end Go.Proofs.Ytjdknebifcdicaa
namespace Go.Proofs.Ytjdknebifcdicaa
open Go.RowKit Go.Shelf Cod
set_option linter.unusedVariables false
set_option maxRecDepth 100000
attribute [local go_sem] Oper.semAt_some wide_fn wide_depth

/-! ### digitsOf -/
theorem digitsOf_any (A : Option Addr) (n C : Nat) (w : World) : Calls Try.prog 97 #[.slice A n C] w fun e w' => e = .returned (.func (.func 101) #[] #[.pointer (some ⟨w.heap.size, 0, none⟩)]) ∧ w.alloc (.cells #[.slice A n C] /-t-/26) = w' := by
  go_enter Try.func97, Try.ntmps97
  go_wp2
  go_ret
  exact ⟨rfl, rfl⟩
#print axioms digitsOf_any
theorem Off.at {S : Nat → Prop} {b o n C : Nat} (h : Off S (.slice (some ⟨b, o, none⟩) n C)) (hn : 0 < n) : ¬ S b := h b o (n - 1) C (by rw [Nat.sub_add_cancel hn])
abbrev Dig := { p : Nat × Bool // p.1 < 128 }
/-- The digit that stands at j. -/
def dig (z : Nat → Nat) (j : Nat) : Dig := ⟨(z j % 128, decide (z j < 128)), Nat.mod_lt _ (by omega)⟩
def upto (z : Nat → Nat) (k : Nat) : List Dig := (List.range k).map (dig z)
theorem upto_succ (z : Nat → Nat) (k : Nat) : upto z (k + 1) = upto z k ++ [dig z k] := by simp [upto, List.range_succ]
theorem upto_len (z : Nat → Nat) (k : Nat) : (upto z k).length = k := by simp [upto]
set_option maxHeartbeats 1000000 in
set_option maxRecDepth 100000 in
theorem digsOf1_in (m : Nat) (hm : 1 ≤ m) (l Bs n₀ n C : Nat) (A : Option Addr) (z : Nat → Nat) (J Jx : List Dig → World → Prop)
    (hY : ∀ pre x W, J pre W → pre.length < n → YieldAt Fence.wide (m - 1) Try.prog l #[.int .u64 (x.1.1 : Int), .bool x.1.2] W fun e W' =>
      (e = .returned (.bool true) ∧ J (pre ++ [x]) W' ∧ Below n₀ W W') ∨ (e = .returned (.bool false) ∧ Jx (pre ++ [x]) W'))
    (W : World) (hB : W.cell? ⟨Bs, 0, none⟩ = some (.slice A n C)) (hR : RowV W (.slice A n C) n z) (ho : Off (fun i => n₀ ≤ i) (.slice A n C)) (h0 : J [] W) :
    CallsIn Fence.wide m Try.prog 101 #[.func (.yield l) #[] #[], .pointer (some ⟨Bs, 0, none⟩)] W fun e W' => (∃ v, e = .returned v) ∧
      ((∃ ys, (∃ k, k ≤ n ∧ ys = upto z k ∧ (k = n ∨ ∃ j, j < k ∧ z j < 128)) ∧ J ys W') ∨ (∃ pre, (∃ k, k < n ∧ pre = upto z (k + 1)) ∧ Jx pre W')) := by
  obtain ⟨_, _, e0, hl, h3⟩ := id hR
  injection e0 with e0 _ e1
  subst e0
  subst e1
  have hl1 := hl.1
  clear hl
  have HR := Lib.hid hR
  have HO := Lib.hid ho
  have H3 := Lib.hid h3
  clear hR ho h3
  refine callsIn_of_wp Try.func101 rfl trivial ?_ rfl
  simp only [Try.ntmps101, List.size_toArray, List.length_cons, List.length_nil, Nat.reduceAdd, Nat.reduceSub, Array.replicate_succ, Array.replicate_zero, List.push_toArray, List.append_toArray, List.nil_append, List.cons_append]
  gi_wp2
  gi_loopw [8] (fun i wr => ∃ k : Nat, k ≤ n ∧ i = .int .i64 k ∧ Hid (∀ j, j < k → 128 ≤ z j) ∧ J (upto z k) wr ∧ Below n₀ W wr) (fun i _ => n - (intOf i).toNat)
  case atStart => exact ⟨0, Nat.zero_le _, rfl, fun j hj => absurd hj (Nat.not_lt_zero j), h0, Below.refl _ _⟩
  case round =>
    obtain ⟨k, hk, rfl, HZ, hJ, hb⟩ := hrel
    by_cases hlt : k < n
    · obtain ⟨b, o, rfl, hc⟩ := H3.out (by omega)
      have hbn : b < n₀ := Nat.lt_of_not_le (HO.out.at (by omega))
      have c1 : wr.cell? ⟨b, o + k, none⟩ = some (.int .u8 (z k : Int)) := (hb.cell (p := ⟨b, o + k, none⟩) hbn).trans (hc k hlt).1
      have hz := (hc k hlt).2
      obtain ⟨fn, tmps, assign, body, hy, hR⟩ := hY (upto z k) (dig z k) wr hJ (by rw [upto_len]; omega)
      rw [← upto_succ] at hR
      clear hc hbn hY
      by_cases hlast : z k < 128
      · have hy' : (Instr.yield l #[.int .u64 ((z k : Int) % 128), .bool true]).run Try.prog wr = .ok (.round l fn tmps assign body) wr := by
          have e : dig z k = ⟨(z k % 128, true), Nat.mod_lt _ (by omega)⟩ := by unfold dig; simp [hlast]
          rw [e] at hy
          simpa using hy
        have t1 : decide ((z k : Int) < 128) = true := by simp; omega
        have HD := Lib.hid (show ∃ m, m ≤ n ∧ upto z (k + 1) = upto z m ∧ (m = n ∨ ∃ j, j < m ∧ z j < 128) from ⟨k + 1, hlt, rfl, Or.inr ⟨k, by omega, hlast⟩⟩)
        have HP := Lib.hid (show ∃ m, m < n ∧ upto z (k + 1) = upto z (m + 1) from ⟨k, hlt, rfl⟩)
        clear hy hlast
        gi_wp2
        refine hR.mono ?_
        rintro e W3 (⟨rfl, hJ3, hk3⟩ | ⟨rfl, hJx3⟩)
        · gi_wp2
          refine bodyPost_ret (results_none rfl _ _ _) rfl ?_
          exact ⟨⟨_, rfl⟩, .inl ⟨_, HD.out, hJ3⟩⟩
        · gi_wp2
          refine bodyPost_ret (results_none rfl _ _ _) rfl ?_
          exact ⟨⟨_, rfl⟩, .inr ⟨_, HP.out, hJx3⟩⟩
      · have hy' : (Instr.yield l #[.int .u64 ((z k : Int) % 128), .bool false]).run Try.prog wr = .ok (.round l fn tmps assign body) wr := by
          have e : dig z k = ⟨(z k % 128, false), Nat.mod_lt _ (by omega)⟩ := by unfold dig; simp [hlast]
          rw [e] at hy
          simpa using hy
        have t1 : decide ((z k : Int) < 128) = false := by simp; omega
        have HP := Lib.hid (show ∃ m, m < n ∧ upto z (k + 1) = upto z (m + 1) from ⟨k, hlt, rfl⟩)
        have HZ2 : Hid (∀ j, j < k + 1 → 128 ≤ z j) := fun j hj => by
          by_cases e : j = k
          · rw [e]; omega
          · exact HZ j (by omega)
        clear hy hlast
        gi_wp2
        refine hR.mono ?_
        rintro e W3 (⟨rfl, hJ3, hk3⟩ | ⟨rfl, hJx3⟩)
        · gi_wp2
          go_roundw
          case rel => exact ⟨k + 1, by omega, by go_num, HZ2, hJ3, hb.trans hk3⟩
          case measure => simp [intOf]; omega
        · gi_wp2
          refine bodyPost_ret (results_none rfl _ _ _) rfl ?_
          exact ⟨⟨_, rfl⟩, .inr ⟨_, HP.out, hJx3⟩⟩
    · obtain rfl : k = n := by omega
      have HD := Lib.hid (show ∃ m, m ≤ k ∧ upto z k = upto z m ∧ (m = k ∨ ∃ j, j < m ∧ z j < 128) from ⟨k, Nat.le_refl _, rfl, Or.inl rfl⟩)
      gi_wp2
      go_end0
      exact ⟨⟨_, rfl⟩, .inl ⟨_, HD.out, hJ⟩⟩
#print axioms digsOf1_in
theorem digsOf_stops (m : Nat) (hm : 1 ≤ m) (Bs n₀ n C : Nat) (A : Option Addr) (z : Nat → Nat) (w : World) (hBs : Bs < w.heap.size) (hc : w.cell? ⟨Bs, 0, none⟩ = some (.slice A n C)) (hR : RowV w (.slice A n C) n z) (ho : Off (fun i => n₀ ≤ i) (.slice A n C)) :
    SeqStopsK Fence.wide m Try.prog 101 #[.pointer (some ⟨Bs, 0, none⟩)] (fun x : Dig => #[Value.int .u64 (x.1.1 : Int), Value.bool x.1.2]) (Below n₀)
      (fun ys => ∃ k, k ≤ n ∧ ys = upto z k ∧ (k = n ∨ ∃ j, j < k ∧ z j < 128)) (fun pre => ∃ k, k < n ∧ pre = upto z (k + 1)) n w :=
  fun l J Jx W hW _ _ hY h0 => digsOf1_in m hm l Bs n₀ n C A z J Jx hY W ((hW.cell (p := ⟨Bs, 0, none⟩) hBs).trans hc) (hR.off (Below.ch hW (fun i => w.heap.size ≤ i)) hR.low) ho h0
#print axioms digsOf_stops
end Go.Proofs.Ytjdknebifcdicaa
