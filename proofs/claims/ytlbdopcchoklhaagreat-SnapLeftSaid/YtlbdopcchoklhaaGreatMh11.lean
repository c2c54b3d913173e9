/-
  The calls of mat that turn one row, walked: times, addTimes. The calls of mat that make and go through rows, walked: count, blank, turnRows, pivot, May; and the document's May, Few, Same. The calls that only read matrices, walked: mat.May, mat.pivot; the document's May, Few, Same. mat.turnRows, walked: row by row, by what is handed over.
-/
import Derived.Test.YtlbdopcchoklhaaGreatMh10
import Derived.Deep.LoopGhost
namespace Go.Proofs.YtlbdopcchoklhaaGreat
open Go.RowKit
set_option linter.unusedVariables false
set_option maxRecDepth 100000

/-- A row of which k numbers are turned from z tto y. -/
def part (k : Nat) (z y : Nat → Nat) (c : Nat) : Nat := if c < k then y c else z c
theorem part_lt {k c : Nat} {z y : Nat → Nat} (h : c < k) : part k z y c = y c := if_pos h
theorem part_ge {k c : Nat} {z y : Nat → Nat} (h : ¬ c < k) : part k z y c = z c := if_neg h
def bRow (w : World) (b m : Nat) (z : Nat → Nat) : Prop := w.rowIs b /-t-/5 m (fun c => .int .u8 (z c : Int))
def RowRel (b m k : Nat) (z y : Nat → Nat) (w wr : World) : Prop := bRow wr b m (part k z y) ∧ Ch (fun j => j = b) w wr
theorem RowRel.start {b m : Nat} {z y : Nat → Nat} {w : World} (h : bRow w b m z) : RowRel b m 0 z y w w :=
  ⟨World.rowIs.congr h fun c _ => by rw [part_ge (by omega)], Ch.refl _ _⟩
theorem RowRel.step {b m k : Nat} {z y : Nat → Nat} {w wr w2 : World} (h : RowRel b m k z y w wr) (h2 : Ch (fun j => j = b) wr w2) : RowRel b m (k + 1) z y w (w2.setCell ⟨b, k, none⟩ (.int .u8 (y k : Int))) ∨ ¬ bRow w2 b m (part k z y) := by
  by_cases hb : bRow w2 b m (part k z y)
  · refine Or.inl ⟨(World.rowIs.set hb k _).congr fun c _ => ?_, (h.2.trans h2).setCell (Or.inl rfl) _⟩
    by_cases e : c = k
    · subst e; rw [if_pos rfl, part_lt (by omega)]
    · rw [if_neg e]
      by_cases q : c < k
      · rw [part_lt q, part_lt (by omega)]
      · rw [part_ge q, part_ge (by omega)]
  · exact Or.inr hb
theorem RowRel.stepN {b m k n : Nat} {z y : Nat → Nat} {w wr : World} (h : RowRel b m k z y w wr) : RowRel b m (k + 1) z y w ((wr.drewN n).setCell ⟨b, k, none⟩ (.int .u8 (y k : Int))) := by
  rcases h.step ((Ch.refl _ wr).drewN n) with r | r
  · exact r
  · exact absurd h.1 r
theorem RowRel.done {b m k : Nat} {z y : Nat → Nat} {w wr : World} (h : RowRel b m k z y w wr) (hk : m ≤ k) : bRow wr b m y :=
  World.rowIs.congr h.1 fun c hc => by rw [part_lt (by omega)]
def RowPost (b m : Nat) (y : Nat → Nat) (w : World) (e : Ending) (w' : World) : Prop := e = .returned (.tuple #[]) ∧ bRow w' b m y ∧ Ch (fun j => j = b) w w'

set_option maxHeartbeats 800000 in
theorem times_any (g b m : Nat) (s : Int) (s0 : 0 ≤ s) (s1 : s < 256) (z : Nat → Nat) (w : World) (hm : m ≤ 8192) (hf : fullAt w g) (hgb : g ≠ b) (hr : bRow w b m z) (hz : Bytes m z) :
    Calls Tryz.prog 150 #[.pointer (some ⟨g, 0, none⟩), .slice (some ⟨b, 0, none⟩) m m, .int .u8 s] w (RowPost b m (fun c => Gf.mul (z c) s.toNat) w) := by
  obtain ⟨y, hy⟩ : ∃ y, y = (fun c => Gf.mul (z c) s.toNat) := ⟨_, rfl⟩
  rw [← hy]
  have HY := Lib.hid (show ∀ c, y c = Gf.mul (z c) s.toNat from fun c => by rw [hy])
  have h0 : RowRel b m 0 z y w w := RowRel.start hr
  have HF := Lib.hid hf
  have HG := Lib.hid hgb
  clear hr hf hgb hy
  go_enter Tryz.func150, Tryz.ntmps150
  go_wp2
  go_loopw [9, 6] (fun i _ wr => ∃ k : Nat, k ≤ m ∧ i = .int .i64 k ∧ RowRel b m k z y w wr) (fun i _ _ => m - (intOf i).toNat)
  case atStart => exact ⟨0, Nat.zero_le _, rfl, h0⟩
  case round =>
    obtain ⟨k, hk, rfl, hrel⟩ := hrel
    by_cases hlt : k < m
    · have c1 : wr.cell? ⟨b, k, none⟩ = some (.int .u8 (z k : Int)) := by rw [World.rowIs.cell hrel.1 hlt, part_ge (by omega)]
      have f1 : wr.frozen? ⟨b, k, none⟩ = false := World.rowIs.frozen hrel.1 k
      have hzk := hz k hlt
      have hfull := Lib.hid (HF.out.ch hrel.2 HG.out)
      go_wp2_with fail
      refine (mul_full _ _ _ (by omega) (by omega) s0 s1 _ hfull.out).mono ?_
      rintro e w1 ⟨rfl, n, rfl⟩
      rw [Int.toNat_natCast, ← HY.out k]
      have hnext := hrel.stepN (n := n)
      go_wp2
      go_roundw
      case rel => exact ⟨k + 1, by omega, by go_num, hnext⟩
      case measure => simp [intOf]; omega
    · go_wp2
      go_end0
      exact ⟨rfl, hrel.done (by omega), hrel.2⟩

set_option maxHeartbeats 1600000 in
theorem addTimes_some (g b m b2 o2 l2 c2 : Nat) (s : Int) (s0 : 0 < s) (s1 : s < 256) (z x : Nat → Nat) (w : World) (hm : m ≤ 8192) (hml : m ≤ l2) (hl2 : l2 ≤ 140737488351232) (hf : fullAt w g) (hgb : g ≠ b) (hb2 : b2 ≠ b) (hr : bRow w b m z) (hz : Bytes m z) (hx : Bytes m x)
    (hc : ∀ c, c < m → w.cell? ⟨b2, o2 + c, none⟩ = some (.int .u8 (x c : Int))) :
    Calls Tryz.prog 127 #[.pointer (some ⟨g, 0, none⟩), .slice (some ⟨b, 0, none⟩) m m, .slice (some ⟨b2, o2, none⟩) l2 c2, .int .u8 s] w (RowPost b m (fun c => xr (z c) (Gf.mul (x c) s.toNat)) w) := by
  obtain ⟨y, hy⟩ : ∃ y, y = (fun c => xr (z c) (Gf.mul (x c) s.toNat)) := ⟨_, rfl⟩
  rw [← hy]
  have HY := Lib.hid (show ∀ c, y c = xr (z c) (Gf.mul (x c) s.toNat) from fun c => by rw [hy])
  have h0 : RowRel b m 0 z y w w := RowRel.start hr
  have HF := Lib.hid hf
  have HG := Lib.hid hgb
  have H2 := Lib.hid hb2
  have HC := Lib.hid hc
  have hs : (s == 0) = false := by rw [beq_eq_false_iff_ne]; omega
  clear hr hf hgb hy hb2 hc
  go_enter Tryz.func127, Tryz.ntmps127
  go_wp2
  go_loopw [13, 8] (fun i _ wr => ∃ k : Nat, k ≤ m ∧ i = .int .i64 k ∧ RowRel b m k z y w wr) (fun i _ _ => m - (intOf i).toNat)
  case atStart => exact ⟨0, Nat.zero_le _, rfl, h0⟩
  case round =>
    obtain ⟨k, hk, rfl, hrel⟩ := hrel
    by_cases hlt : k < m
    · have c1 : wr.cell? ⟨b, k, none⟩ = some (.int .u8 (z k : Int)) := by rw [World.rowIs.cell hrel.1 hlt, part_ge (by omega)]
      have f1 : wr.frozen? ⟨b, k, none⟩ = false := World.rowIs.frozen hrel.1 k
      have c2 : wr.cell? ⟨b2, o2 + k, none⟩ = some (.int .u8 (x k : Int)) := hrel.2.cell (HC.out k hlt) H2.out
      have hzk := hz k hlt
      have hxk := hx k hlt
      have hfull := Lib.hid (HF.out.ch hrel.2 HG.out)
      have hml := Gf.mul_lt (x k) s.toNat
      have i1 : (0 : Int) ≤ (k : Int) := Int.natCast_nonneg _
      have i2 : (k : Int) < (m : Int) := by omega
      have i3 : (k : Int) < (l2 : Int) := by omega
      go_wp2
      go_region_with (first | (go_at_call 145; refine (mul_full _ _ _ (by omega) (by omega) (by omega) s1 _ (hfull.out.drewN 1)).mono ?_; rintro e w1 ⟨rfl, n, rfl⟩) | (go_at_call 138; refine (add_any _ _ _ (by omega) (by omega) (by omega) (by omega) _).mono ?_; rintro e w1 ⟨rfl, rfl⟩))
      all_goals
        rw [← HY.out k]
        have hnext := hrel.stepN (n := 1 + n)
        go_wp2
        go_roundw
        case rel => exact ⟨k + 1, by omega, by go_num, hnext⟩
        case measure => simp [intOf]; omega
    · go_wp2
      go_end0
      exact ⟨rfl, hrel.done (by omega), hrel.2⟩
theorem xr_zero (a : Nat) : xr a 0 = a := Nat.xor_zero a
set_option maxHeartbeats 400000 in
theorem addTimes_none (v row other : Value) (hr : ∃ A n c, row = .slice A n c) (ho : ∃ A n c, other = .slice A n c) (w : World) :
    Calls Tryz.prog 127 #[v, row, other, .int .u8 0] w fun e w' => e = .returned (.tuple #[]) ∧ w = w' := by
  obtain ⟨A, n, c, rfl⟩ := hr
  obtain ⟨A2, n2, c2, rfl⟩ := ho
  go_enter Tryz.func127, Tryz.ntmps127
  go_wp2
  refine bodyPost_ret (results_none rfl _ _ _) rfl ?_
  exact ⟨rfl, rfl⟩
theorem addTimes_any (g b m b2 o2 l2 c2 : Nat) (s : Int) (s0 : 0 ≤ s) (s1 : s < 256) (z x : Nat → Nat) (w : World) (hm : m ≤ 8192) (hml : m ≤ l2) (hl2 : l2 ≤ 140737488351232) (hf : fullAt w g) (hgb : g ≠ b) (hb2 : b2 ≠ b) (hr : bRow w b m z) (hz : Bytes m z) (hx : Bytes m x)
    (hc : ∀ c, c < m → w.cell? ⟨b2, o2 + c, none⟩ = some (.int .u8 (x c : Int))) :
    Calls Tryz.prog 127 #[.pointer (some ⟨g, 0, none⟩), .slice (some ⟨b, 0, none⟩) m m, .slice (some ⟨b2, o2, none⟩) l2 c2, .int .u8 s] w (RowPost b m (fun c => xr (z c) (Gf.mul (x c) s.toNat)) w) := by
  by_cases h : s = 0
  · subst h
    refine (addTimes_none _ _ _ ⟨_, _, _, rfl⟩ ⟨_, _, _, rfl⟩ w).mono ?_
    rintro e w' ⟨rfl, rfl⟩
    refine ⟨rfl, World.rowIs.congr hr fun c _ => ?_, Ch.refl _ _⟩
    show _ = Value.int .u8 (xr (z c) (Gf.mul (x c) 0) : Int)
    rw [Gf.mul_zero, xr_zero]
  · exact addTimes_some g b m b2 o2 l2 c2 s (by omega) s1 z x w hm hml hl2 hf hgb hb2 hr hz hx hc
end Go.Proofs.YtlbdopcchoklhaaGreat
namespace Go.Proofs.YtlbdopcchoklhaaGreat
open Go.RowKit
set_option linter.unusedVariables false
set_option maxRecDepth 100000

def cntB (n : Int) : Bool := decide (1 ≤ n ∧ n ≤ 64)
theorem count_any (n : Int) (w : World) : Calls Tryz.prog 134 #[.int .i64 n] w fun e w' => e = .returned (.bool (cntB n)) ∧ w = w' := by
  by_cases h1 : 1 ≤ n
  · by_cases h2 : n ≤ 64
    · have H := Lib.hid (show true = cntB n by simp [cntB, h1, h2])
      go_enter Tryz.func134, Tryz.ntmps134
      go_wp2
      go_ret
      exact ⟨ret_bool H.out, rfl⟩
    · have H := Lib.hid (show false = cntB n by simp [cntB, h1, h2])
      have h2' : decide (n ≤ 64) = false := by simpa using h2
      go_enter Tryz.func134, Tryz.ntmps134
      go_wp2
      go_ret
      exact ⟨ret_bool H.out, rfl⟩
  · have H := Lib.hid (show false = cntB n by simp [cntB, h1])
    have h1' : decide (1 ≤ n) = false := by simpa using h1
    go_enter Tryz.func134, Tryz.ntmps134
    go_wp2
    go_ret
    exact ⟨ret_bool H.out, rfl⟩

/-! ### blank -/
theorem Tryz.info24 : (Tryz.prog.info? 24).map (fun i => (i.zero, i.size, i.bytes)) = some (some (.slice none 0 0), 1, 24) := by kernel_rfl
/-- The new matrix's own row, when k of its rows are made. -/
def topv (g m k : Nat) (j : Nat) : Value := if j < k then .slice (some ⟨g + 1 + j, 0, none⟩) m m else .slice none 0 0
structure BlankRel (w : World) (n m k : Nat) (wr : World) : Prop where
  size : wr.heap.size = w.heap.size + 1 + k
  top : wr.rowIs w.heap.size /-t-/24 n (topv w.heap.size m k)
  row : ∀ r, r < k → wr.rowIs (w.heap.size + 1 + r) /-t-/5 m (fun _ => .int .u8 0)
  ch : Ch (fun _ => False) w wr
theorem BlankRel.start (w : World) (n m : Nat) : BlankRel w n m 0 (w.alloc (.cells (madeCells #[.slice none 0 0] n) /-t-/24)) :=
  ⟨by simp, (World.rowIs_made w _ n _).congr fun j _ => by simp [topv], fun r hr => absurd hr (Nat.not_lt_zero _), (Ch.refl _ _).alloc _ _⟩
theorem BlankRel.step {w : World} {n m k : Nat} {wr : World} (h : BlankRel w n m k wr) :
    BlankRel w n m (k + 1) ((wr.alloc (.cells (madeCells #[.int .u8 0] m) /-t-/5)).setCell ⟨w.heap.size, k, none⟩ (.slice (some ⟨w.heap.size + 1 + k, 0, none⟩) m m)) := by
  have hnew := World.rowIs_made wr (.int .u8 0) m /-t-/5
  rw [h.size] at hnew
  refine ⟨by simp [h.size]; omega, ((h.top.alloc _).set k _).congr fun j _ => ?_, fun r hr => ?_, (h.ch.alloc _ _).setCell (Or.inr (Nat.le_refl _)) _⟩
  · unfold topv
    by_cases e : j = k
    · subst e; simp
    · rw [if_neg e]
      by_cases hlt : j < k
      · rw [if_pos hlt, if_pos (by omega)]
      · rw [if_neg hlt, if_neg (by omega)]
  · by_cases e : r = k
    · subst e; exact hnew.setOther (by show w.heap.size + 1 + r ≠ w.heap.size; omega) _
    · exact ((h.row r (by omega)).alloc _).setOther (by show w.heap.size + 1 + r ≠ w.heap.size; omega) _
theorem BlankRel.own {w : World} {n m : Nat} {wr : World} (h : BlankRel w n m n wr) : Own wr w.heap.size n m (fun r => w.heap.size + 1 + r) (fun _ _ => 0) :=
  ⟨h.top.congr fun j hj => by unfold topv; rw [if_pos hj], fun r hr => h.row r hr, fun r s _ _ e => by have e' : w.heap.size + 1 + r = w.heap.size + 1 + s := e; omega, fun r _ => by show w.heap.size + 1 + r ≠ w.heap.size; omega, fun _ _ _ _ => by show 0 < 256; omega⟩
def BlankPost (w : World) (n m : Nat) (e : Ending) (w' : World) : Prop :=
  e = .returned (.slice (some ⟨w.heap.size, 0, none⟩) n n) ∧ Own w' w.heap.size n m (fun r => w.heap.size + 1 + r) (fun _ _ => 0) ∧ Ch (fun _ => False) w w'
set_option maxHeartbeats 800000 in
theorem blank_anyF (n m : Int) (n0 : 0 ≤ n) (n1 : n ≤ 64) (m0 : 0 ≤ m) (m1 : m ≤ 8192) (w : World) : Calls Tryz.prog 124 #[.int .i64 n, .int .i64 m] w (BlankPost w n.toNat m.toNat) := by
  obtain ⟨n, rfl⟩ := Int.eq_ofNat_of_zero_le n0
  obtain ⟨m, rfl⟩ := Int.eq_ofNat_of_zero_le m0
  rw [Int.toNat_natCast, Int.toNat_natCast]
  have hmk1 := run_make_row' (P := Tryz.prog) 37 24 (.slice none 0 0) 24 Tryz.underlying37 Tryz.info24 rfl .i64 .i64 n (by omega) (by omega)
  have hmk2 := run_make_row' (P := Tryz.prog) 24 5 (.int .u8 0) 1 Tryz.underlying24 Tryz.info5 rfl .i64 .i64 m (by omega) (by omega)
  have h0 := BlankRel.start w n m
  go_enter Tryz.func124, Tryz.ntmps124
  go_wp2
  go_loopw [11, 6] (fun i _ wr => ∃ k : Nat, k ≤ n ∧ i = .int .i64 k ∧ BlankRel w n m k wr) (fun i _ _ => n - (intOf i).toNat)
  case atStart => exact ⟨0, Nat.zero_le _, rfl, h0⟩
  case round =>
    obtain ⟨k, hk, rfl, hrel⟩ := hrel
    by_cases hlt : k < n
    · have hsize := hrel.size
      have c1 : ∀ o, (wr.alloc o).cell? ⟨w.heap.size, k, none⟩ = some (topv w.heap.size m k k) := fun o => (hrel.top.alloc o).cell hlt
      have f1 : ∀ o, (wr.alloc o).frozen? ⟨w.heap.size, k, none⟩ = false := fun o => (hrel.top.alloc o).frozen k
      have hnext := hrel.step
      go_wp2
      go_roundw
      case rel => exact ⟨k + 1, by omega, by go_num, hnext⟩
      case measure => simp [intOf]; omega
    · have HE := Lib.hid (show k = n by omega)
      go_wp2
      go_ret
      rw [HE.out] at hrel
      exact ⟨rfl, hrel.own, hrel.ch⟩
end Go.Proofs.YtlbdopcchoklhaaGreat
namespace Go.Proofs.YtlbdopcchoklhaaGreat
open Go.RowKit
set_option linter.unusedVariables false
set_option maxRecDepth 100000

def mayBF (n : Nat) (L : Nat → Nat) : Bool := decide (1 ≤ n ∧ n ≤ 64 ∧ 1 ≤ L 0 ∧ L 0 ≤ 4096 ∧ ∀ r, r < n → L r = L 0)
theorem mayB_true {n : Nat} {L : Nat → Nat} (h : mayBF n L = true) : 1 ≤ n ∧ n ≤ 64 ∧ 1 ≤ L 0 ∧ L 0 ≤ 4096 ∧ ∀ r, r < n → L r = L 0 := of_decide_eq_true h
theorem mayB_mk {n : Nat} {L : Nat → Nat} (h : 1 ≤ n ∧ n ≤ 64 ∧ 1 ≤ L 0 ∧ L 0 ≤ 4096 ∧ ∀ r, r < n → L r = L 0) : mayBF n L = true := decide_eq_true h
theorem mayB_no {n : Nat} {L : Nat → Nat} (h : ¬ (1 ≤ n ∧ n ≤ 64 ∧ 1 ≤ L 0 ∧ L 0 ≤ 4096 ∧ ∀ r, r < n → L r = L 0)) : mayBF n L = false := decide_eq_false h

/-- The rows of a matrix that has some, as the walk asks for them. -/
theorem MatV.some {w : World} {v : Value} {n : Nat} {L : Nat → Nat} {Z : Nat → Nat → Nat} (h : MatV w v n L Z) (hn : 0 < n) :
    ∃ b o C, v = .slice (some ⟨b, o, none⟩) n C ∧ n ≤ 140737488351232 ∧ ∀ r, r < n → ∃ (A : Option Addr) (D : Nat), w.cell? ⟨b, o + r, none⟩ = some (.slice A (L r) D) ∧ L r ≤ 140737488351232 ∧ (0 < L r → ∃ b o, A = some ⟨b, o, none⟩ ∧ ∀ c, c < L r → w.cell? ⟨b, o + c, none⟩ = some (.int .u8 (Z r c : Int)) ∧ Z r c < 256) := by
  obtain ⟨A, C, rfl, hb, h3⟩ := h
  obtain ⟨b, o, rfl, h4⟩ := h3 hn
  refine ⟨b, o, C, rfl, hb.1, fun r hr => ?_⟩
  obtain ⟨x, hx, A, D, rfl, h5, h6⟩ := h4 r hr
  exact ⟨A, D, hx, h5.1, h6⟩
theorem MatV.none {w : World} {v : Value} {L : Nat → Nat} {Z : Nat → Nat → Nat} (h : MatV w v 0 L Z) : ∃ A C, v = .slice A 0 C := by
  obtain ⟨A, C, rfl, _, _⟩ := h
  exact ⟨A, C, rfl⟩

set_option maxHeartbeats 800000 in
theorem may_anyF (v : Value) (n : Nat) (L : Nat → Nat) (Z : Nat → Nat → Nat) (w : World) (h : MatV w v n L Z) :
    Calls Tryz.prog 79 #[v] w fun e w' => e = .returned (.bool (mayBF n L)) ∧ w = w' := by
  by_cases hn : 0 < n
  · obtain ⟨b, o, C, rfl, hb, hr⟩ := h.some hn
    clear h
    by_cases h64 : n ≤ 64
    · obtain ⟨A0, D0, c0, l0, _⟩ := hr 0 hn
      rw [Nat.add_zero] at c0
      have HR := Lib.hid hr
      clear hr
      have i0 : (0 : Int) < (n : Int) := by omega
      have t1 : decide ((n : Int) < 1) = false := by simp; omega
      have t2 : decide ((64 : Int) < (n : Int)) = false := by simp; omega
      by_cases hl1 : 1 ≤ L 0
      · have t3 : decide ((L 0 : Int) < 1) = false := by simp; omega
        by_cases hl2 : L 0 ≤ 4096
        · have t4 : decide ((4096 : Int) < (L 0 : Int)) = false := by simp; omega
          go_enter Tryz.func79, Tryz.ntmps79
          go_wp2
          go_loop [25, 4] (fun i _ => ∃ k : Nat, k ≤ n ∧ i = .int .i64 k ∧ Hid (∀ r, r < k → L r = L 0)) (fun i _ => n - (intOf i).toNat)
          case atStart => exact ⟨0, Nat.zero_le _, rfl, fun r hr => absurd hr (Nat.not_lt_zero r)⟩
          case round =>
            obtain ⟨k, hk, rfl, HK⟩ := hrel
            by_cases hlt : k < n
            · obtain ⟨Ak, Dk, ck, lk, _⟩ := HR.out k hlt
              by_cases he : L k = L 0
              · have hb' : ((L k : Int) != (L 0 : Int)) = false := by simp [he]
                have HS : Hid (∀ r, r < k + 1 → L r = L 0) := fun r hr => by
                  by_cases e : r = k
                  · rw [e]; exact he
                  · exact HK r (by omega)
                clear he
                go_wp2
                go_round
                case rel => exact ⟨k + 1, by omega, by go_num, HS⟩
                case measure => simp [intOf]; omega
              · have hb' : ((L k : Int) != (L 0 : Int)) = true := by simp; omega
                have HS := Lib.hid (mayB_no (n := n) (L := L) (fun q => he (q.2.2.2.2 k hlt)))
                clear he
                go_wp2
                go_ret
                exact ⟨ret_bool HS.out.symm, rfl⟩
            · have HE := Lib.hid (show k = n by omega)
              go_wp2
              go_ret
              refine ⟨ret_bool (mayB_mk ⟨by omega, h64, hl1, hl2, fun r hr => HK.out r (by have := HE.out; omega)⟩).symm, rfl⟩
        · have t4 : decide ((4096 : Int) < (L 0 : Int)) = true := by simp; omega
          have HS := Lib.hid (mayB_no (n := n) (L := L) (fun q => hl2 q.2.2.2.1))
          go_enter Tryz.func79, Tryz.ntmps79
          go_wp2
          go_ret
          exact ⟨ret_bool HS.out.symm, rfl⟩
      · have t3 : decide ((L 0 : Int) < 1) = true := by simp; omega
        have HS := Lib.hid (mayB_no (n := n) (L := L) (fun q => hl1 q.2.2.1))
        go_enter Tryz.func79, Tryz.ntmps79
        go_wp2
        go_ret
        exact ⟨ret_bool HS.out.symm, rfl⟩
    · have t1 : decide ((n : Int) < 1) = false := by simp; omega
      have t2 : decide ((64 : Int) < (n : Int)) = true := by simp; omega
      have HS := Lib.hid (mayB_no (n := n) (L := L) (fun q => h64 q.2.1))
      go_enter Tryz.func79, Tryz.ntmps79
      go_wp2
      go_ret
      exact ⟨ret_bool HS.out.symm, rfl⟩
  · obtain rfl : n = 0 := by omega
    obtain ⟨A, C, rfl⟩ := h.none
    have HS := Lib.hid (mayB_no (n := 0) (L := L) (fun q => by omega))
    go_enter Tryz.func79, Tryz.ntmps79
    go_wp2
    go_ret
    exact ⟨ret_bool HS.out.symm, rfl⟩
end Go.Proofs.YtlbdopcchoklhaaGreat
namespace Go.Proofs.YtlbdopcchoklhaaGreat
open Go.RowKit
set_option linter.unusedVariables false
set_option maxRecDepth 100000

def TurnPost (P : Nat → World → Prop) (n : Nat) (e : Ending) (w' : World) : Prop := e = .returned (.tuple #[]) ∧ P n w'
/-- What one call of the function that is handed over has tto do. -/
def Turns (F : FuncId) (caps : Array Value) (g n m : Nat) (B : Nat → Nat) (P : Nat → World → Prop) : Prop :=
  ∀ i W, i < n → P i W → W.cell? ⟨g, i, none⟩ = some (.slice (some ⟨B i, 0, none⟩) m m) ∧ Calls Tryz.prog F (#[.int .i64 (i : Int), .slice (some ⟨B i, 0, none⟩) m m] ++ caps) W (TurnPost P (i + 1))
set_option maxHeartbeats 800000 in
theorem turn0_any (F : FuncId) (g n m : Nat) (B : Nat → Nat) (P : Nat → World → Prop) (w : World) (hn : n ≤ 64) (eg : ∀ args W, (callFunc F args).run Tryz.prog W = .ok (.enter F args) W) (H : Turns F #[] g n m B P) (h0 : P 0 w) :
    Calls Tryz.prog 125 #[.slice (some ⟨g, 0, none⟩) n n, .func (.func F) #[] #[]] w (TurnPost P n) := by
  have HH := Lib.hid H
  have H0 := Lib.hid h0
  clear H h0
  go_enter Tryz.func125, Tryz.ntmps125
  go_wp2
  go_loopw [7, 4] (fun i _ wr => ∃ k : Nat, k ≤ n ∧ i = .int .i64 k ∧ Hid (P k wr)) (fun i _ _ => n - (intOf i).toNat)
  case atStart => exact ⟨0, Nat.zero_le _, rfl, H0⟩
  case round =>
    obtain ⟨k, hk, rfl, HP⟩ := hrel
    by_cases hlt : k < n
    · obtain ⟨c1, hcall⟩ := HH.out k wr hlt HP.out
      have HC := Lib.hid hcall
      clear hcall
      go_wp2_with fail
      refine HC.out.mono ?_
      rintro e w1 ⟨rfl, hP⟩
      have HP1 := Lib.hid hP
      clear hP
      go_wp2
      go_roundw
      case rel => exact ⟨k + 1, by omega, by go_num, HP1⟩
      case measure => simp [intOf]; omega
    · have HE := Lib.hid (show k = n by omega)
      go_wp2
      go_end0
      exact ⟨rfl, by rw [← HE.out]; exact HP.out⟩
set_option maxHeartbeats 800000 in
theorem turn2_any (F : FuncId) (p1 p2 : Value) (g n m : Nat) (B : Nat → Nat) (P : Nat → World → Prop) (w : World) (hn : n ≤ 64) (eg : ∀ args W, (callFunc F args).run Tryz.prog W = .ok (.enter F args) W) (H : Turns F #[p1, p2] g n m B P) (h0 : P 0 w) :
    Calls Tryz.prog 125 #[.slice (some ⟨g, 0, none⟩) n n, .func (.func F) #[] #[p1, p2]] w (TurnPost P n) := by
  have HH := Lib.hid H
  have H0 := Lib.hid h0
  clear H h0
  go_enter Tryz.func125, Tryz.ntmps125
  go_wp2
  go_loopw [7, 4] (fun i _ wr => ∃ k : Nat, k ≤ n ∧ i = .int .i64 k ∧ Hid (P k wr)) (fun i _ _ => n - (intOf i).toNat)
  case atStart => exact ⟨0, Nat.zero_le _, rfl, H0⟩
  case round =>
    obtain ⟨k, hk, rfl, HP⟩ := hrel
    by_cases hlt : k < n
    · obtain ⟨c1, hcall⟩ := HH.out k wr hlt HP.out
      have HC := Lib.hid hcall
      clear hcall
      go_wp2_with fail
      refine HC.out.mono ?_
      rintro e w1 ⟨rfl, hP⟩
      have HP1 := Lib.hid hP
      clear hP
      go_wp2
      go_roundw
      case rel => exact ⟨k + 1, by omega, by go_num, HP1⟩
      case measure => simp [intOf]; omega
    · have HE := Lib.hid (show k = n by omega)
      go_wp2
      go_end0
      exact ⟨rfl, by rw [← HE.out]; exact HP.out⟩
set_option maxHeartbeats 800000 in
theorem turn3_any (F : FuncId) (p1 p2 p3 : Value) (g n m : Nat) (B : Nat → Nat) (P : Nat → World → Prop) (w : World) (hn : n ≤ 64) (eg : ∀ args W, (callFunc F args).run Tryz.prog W = .ok (.enter F args) W) (H : Turns F #[p1, p2, p3] g n m B P) (h0 : P 0 w) :
    Calls Tryz.prog 125 #[.slice (some ⟨g, 0, none⟩) n n, .func (.func F) #[] #[p1, p2, p3]] w (TurnPost P n) := by
  have HH := Lib.hid H
  have H0 := Lib.hid h0
  clear H h0
  go_enter Tryz.func125, Tryz.ntmps125
  go_wp2
  go_loopw [7, 4] (fun i _ wr => ∃ k : Nat, k ≤ n ∧ i = .int .i64 k ∧ Hid (P k wr)) (fun i _ _ => n - (intOf i).toNat)
  case atStart => exact ⟨0, Nat.zero_le _, rfl, H0⟩
  case round =>
    obtain ⟨k, hk, rfl, HP⟩ := hrel
    by_cases hlt : k < n
    · obtain ⟨c1, hcall⟩ := HH.out k wr hlt HP.out
      have HC := Lib.hid hcall
      clear hcall
      go_wp2_with fail
      refine HC.out.mono ?_
      rintro e w1 ⟨rfl, hP⟩
      have HP1 := Lib.hid hP
      clear hP
      go_wp2
      go_roundw
      case rel => exact ⟨k + 1, by omega, by go_num, HP1⟩
      case measure => simp [intOf]; omega
    · have HE := Lib.hid (show k = n by omega)
      go_wp2
      go_end0
      exact ⟨rfl, by rw [← HE.out]; exact HP.out⟩
theorem enter25 (args : Array Value) (W : World) : (callFunc 135 args).run Tryz.prog W = .ok (.enter 135 args) W := by simp [go_sem]
theorem enter27 (args : Array Value) (W : World) : (callFunc 136 args).run Tryz.prog W = .ok (.enter 136 args) W := by simp [go_sem]
theorem enter32 (args : Array Value) (W : World) : (callFunc 126 args).run Tryz.prog W = .ok (.enter 126 args) W := by simp [go_sem]
theorem enter46 (args : Array Value) (W : World) : (callFunc 148 args).run Tryz.prog W = .ok (.enter 148 args) W := by simp [go_sem]
theorem enter49 (args : Array Value) (W : World) : (callFunc 151 args).run Tryz.prog W = .ok (.enter 151 args) W := by simp [go_sem]
theorem enter50 (args : Array Value) (W : World) : (callFunc 152 args).run Tryz.prog W = .ok (.enter 152 args) W := by simp [go_sem]

/-! ### a matrix of which i rows are turned -/
def uptoF (i : Nat) (Z Y : Nat → Nat → Nat) (r c : Nat) : Nat := if r < i then Y r c else Z r c
theorem upto_lt {i r c : Nat} {Z Y : Nat → Nat → Nat} (h : r < i) : uptoF i Z Y r c = Y r c := if_pos h
theorem upto_ge {i r c : Nat} {Z Y : Nat → Nat → Nat} (h : ¬ r < i) : uptoF i Z Y r c = Z r c := if_neg h
theorem Own.start {w : World} {g n m : Nat} {B : Nat → Nat} {Z : Nat → Nat → Nat} (Y : Nat → Nat → Nat) (h : Own w g n m B Z) : Own w g n m B (uptoF 0 Z Y) := h.congr fun r c _ _ => by rw [upto_ge (by omega)]
theorem Own.finish {w : World} {g n m : Nat} {B : Nat → Nat} {Z Y : Nat → Nat → Nat} (h : Own w g n m B (uptoF n Z Y)) : Own w g n m B Y := h.congr fun r c hr _ => by rw [upto_lt hr]
theorem Own.step {w w' : World} {g n m : Nat} {B : Nat → Nat} {Z Y : Nat → Nat → Nat} {i : Nat} (h : Own w g n m B (uptoF i Z Y)) (hi : i < n) (k : Ch (fun j => j = B i) w w') (hr : bRow w' (B i) m (Y i)) (hy : Bytes m (Y i)) : Own w' g n m B (uptoF (i + 1) Z Y) := by
  refine (h.turn hi k hr hy).congr fun r c hrn _ => ?_
  by_cases e : r = i
  · rw [if_pos e, upto_lt (by omega), e]
  · rw [if_neg e]
    by_cases q : r < i
    · rw [upto_lt q, upto_lt (by omega)]
    · rw [upto_ge q, upto_ge (by omega)]
theorem Own.stay {w w' : World} {g n m : Nat} {B : Nat → Nat} {Z Y : Nat → Nat → Nat} {i : Nat} (h : Own w g n m B (uptoF i Z Y)) (hi : i < n) (k : Ch (fun _ => False) w w') (hy : ∀ c, c < m → Y i c = Z i c) : Own w' g n m B (uptoF (i + 1) Z Y) := by
  refine (h.ch k (fun f => f) (fun _ _ f => f)).congr fun r c hrn hc => ?_
  by_cases e : r = i
  · rw [upto_ge (by omega), upto_lt (by omega), e, hy c hc]
  · by_cases q : r < i
    · rw [upto_lt q, upto_lt (by omega)]
    · rw [upto_ge q, upto_ge (by omega)]
end Go.Proofs.YtlbdopcchoklhaaGreat
