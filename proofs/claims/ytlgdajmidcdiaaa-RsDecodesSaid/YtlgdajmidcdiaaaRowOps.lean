/-
  The calls of mat that turn one row, walked: times, addTimes.
-/
import Derived.Test.YtlgdajmidcdiaaaMem
namespace Go.Proofs.Ytlgdajmidcdiaaa
open Go.RowKit
set_option linter.unusedVariables false

/-- A row of which k numbers are turned from z to y. -/
def part (k : Nat) (z y : Nat → Nat) (c : Nat) : Nat := if c < k then y c else z c
theorem part_lt {k c : Nat} {z y : Nat → Nat} (h : c < k) : part k z y c = y c := if_pos h
theorem part_ge {k c : Nat} {z y : Nat → Nat} (h : ¬ c < k) : part k z y c = z c := if_neg h
def Bytes (m : Nat) (z : Nat → Nat) : Prop := ∀ c, c < m → z c < 256
def bRow (w : World) (b m : Nat) (z : Nat → Nat) : Prop := w.rowIs b /-t-/5 m (fun c => .int .u8 (z c : Int))
def RowRel (b m k : Nat) (z y : Nat → Nat) (w wr : World) : Prop := bRow wr b m (part k z y) ∧ Ch (fun j => j = b) w wr
theorem RowRel.start {b m : Nat} {z y : Nat → Nat} {w : World} (h : bRow w b m z) : RowRel b m 0 z y w w :=
  ⟨World.rowIs.congr h fun c _ => by rw [part_ge (by omega)], Ch.refl _ _⟩
theorem RowRel.step {b m k : Nat} {z y : Nat → Nat} {w wr w2 : World} (h : RowRel b m k z y w wr) (h2 : Ch (fun j => j = b) wr w2) : RowRel b m (k + 1) z y w (w2.setCell ⟨b, k, none⟩ (.int .u8 (y k : Int))) ∨ ¬ bRow w2 b m (part k z y) := by
  by_cases hb : bRow w2 b m (part k z y)
  · refine Or.inl ⟨(World.rowIs.set hb k _).congr fun c _ => ?_, (h.2.trans h2).setCell (Or.inl rfl) _⟩
    by_cases e : c = k
    · subst e; rw [if_pos rfl, part_lt (by omega)]
    · rw [if_neg e]
      by_cases q : c < k
      · rw [part_lt q, part_lt (by omega)]
      · rw [part_ge q, part_ge (by omega)]
  · exact Or.inr hb
theorem RowRel.stepN {b m k n : Nat} {z y : Nat → Nat} {w wr : World} (h : RowRel b m k z y w wr) : RowRel b m (k + 1) z y w ((wr.drewN n).setCell ⟨b, k, none⟩ (.int .u8 (y k : Int))) := by
  rcases h.step ((Ch.refl _ wr).drewN n) with r | r
  · exact r
  · exact absurd h.1 r
theorem RowRel.done {b m k : Nat} {z y : Nat → Nat} {w wr : World} (h : RowRel b m k z y w wr) (hk : m ≤ k) : bRow wr b m y :=
  World.rowIs.congr h.1 fun c hc => by rw [part_lt (by omega)]
def RowPost (b m : Nat) (y : Nat → Nat) (w : World) (e : Ending) (w' : World) : Prop := e = .returned (.tuple #[]) ∧ bRow w' b m y ∧ Ch (fun j => j = b) w w'

set_option maxHeartbeats 800000 in
theorem times_any (g b m : Nat) (s : Int) (s0 : 0 ≤ s) (s1 : s < 256) (z : Nat → Nat) (w : World) (hm : m ≤ 8192) (hf : fullAt w g) (hgb : g ≠ b) (hr : bRow w b m z) (hz : Bytes m z) :
    Calls Try.prog 60 #[.pointer (some ⟨g, 0, none⟩), .slice (some ⟨b, 0, none⟩) m m, .int .u8 s] w (RowPost b m (fun c => Gf.mul (z c) s.toNat) w) := by
  obtain ⟨y, hy⟩ : ∃ y, y = (fun c => Gf.mul (z c) s.toNat) := ⟨_, rfl⟩
  rw [← hy]
  have HY := Lib.hid (show ∀ c, y c = Gf.mul (z c) s.toNat from fun c => by rw [hy])
  have h0 : RowRel b m 0 z y w w := RowRel.start hr
  have HF := Lib.hid hf
  have HG := Lib.hid hgb
  clear hr hf hgb hy
  go_enter Try.func60, Try.ntmps60
  go_wp2
  go_loopw [9, 6] (fun i _ wr => ∃ k : Nat, k ≤ m ∧ i = .int .i64 k ∧ RowRel b m k z y w wr) (fun i _ _ => m - (intOf i).toNat)
  case atStart => exact ⟨0, Nat.zero_le _, rfl, h0⟩
  case round =>
    obtain ⟨k, hk, rfl, hrel⟩ := hrel
    by_cases hlt : k < m
    · have c1 : wr.cell? ⟨b, k, none⟩ = some (.int .u8 (z k : Int)) := by rw [World.rowIs.cell hrel.1 hlt, part_ge (by omega)]
      have f1 : wr.frozen? ⟨b, k, none⟩ = false := World.rowIs.frozen hrel.1 k
      have hzk := hz k hlt
      have hfull := Lib.hid (HF.out.ch hrel.2 HG.out)
      go_wp2_with fail
      refine (mul_full _ _ _ (by omega) (by omega) s0 s1 _ hfull.out).mono ?_
      rintro e w1 ⟨rfl, n, rfl⟩
      rw [Int.toNat_natCast, ← HY.out k]
      have hnext := hrel.stepN (n := n)
      go_wp2
      go_roundw
      case rel => exact ⟨k + 1, by omega, by go_num, hnext⟩
      case measure => simp [intOf]; omega
    · go_wp2
      go_end0
      exact ⟨rfl, hrel.done (by omega), hrel.2⟩

theorem mul_at (g : Nat) (a b : Int) (a0 : 0 ≤ a) (a1 : a < 256) (b0 : 0 ≤ b) (b1 : b < 256) (w : World) (k : Nat) (h : fullAt w g) :
    Calls Try.prog 50 #[.pointer (some ⟨g, 0, none⟩), .int .u8 a, .int .u8 b] (w.drewN k) fun e w' => e = .returned (.int .u8 (Gf.mul a.toNat b.toNat : Int)) ∧ ∃ m, w' = w.drewN m :=
  Qu.at (mul_full g a b a0 a1 b0 b1 (w.drewN k) (h.drewN k))

set_option maxHeartbeats 1600000 in
theorem addTimes_some (g b m b2 o2 l2 c2 : Nat) (s : Int) (s0 : 0 < s) (s1 : s < 256) (z x : Nat → Nat) (w : World) (hm : m ≤ 8192) (hml : m ≤ l2) (hl2 : l2 ≤ 140737488351232) (hf : fullAt w g) (hgb : g ≠ b) (hb2 : b2 ≠ b) (hr : bRow w b m z) (hz : Bytes m z) (hx : Bytes m x)
    (hc : ∀ c, c < m → w.cell? ⟨b2, o2 + c, none⟩ = some (.int .u8 (x c : Int))) :
    Calls Try.prog 37 #[.pointer (some ⟨g, 0, none⟩), .slice (some ⟨b, 0, none⟩) m m, .slice (some ⟨b2, o2, none⟩) l2 c2, .int .u8 s] w (RowPost b m (fun c => xr (z c) (Gf.mul (x c) s.toNat)) w) := by
  obtain ⟨y, hy⟩ : ∃ y, y = (fun c => xr (z c) (Gf.mul (x c) s.toNat)) := ⟨_, rfl⟩
  rw [← hy]
  have HY := Lib.hid (show ∀ c, y c = xr (z c) (Gf.mul (x c) s.toNat) from fun c => by rw [hy])
  have h0 : RowRel b m 0 z y w w := RowRel.start hr
  have HF := Lib.hid hf
  have HG := Lib.hid hgb
  have H2 := Lib.hid hb2
  have HC := Lib.hid hc
  have hs : (s == 0) = false := by rw [beq_eq_false_iff_ne]; omega
  clear hr hf hgb hy hb2 hc
  go_enter Try.func37, Try.ntmps37
  go_wp2
  go_loopw [13, 8] (fun i _ wr => ∃ k : Nat, k ≤ m ∧ i = .int .i64 k ∧ RowRel b m k z y w wr) (fun i _ _ => m - (intOf i).toNat)
  case atStart => exact ⟨0, Nat.zero_le _, rfl, h0⟩
  case round =>
    obtain ⟨k, hk, rfl, hrel⟩ := hrel
    by_cases hlt : k < m
    · have c1 : wr.cell? ⟨b, k, none⟩ = some (.int .u8 (z k : Int)) := by rw [World.rowIs.cell hrel.1 hlt, part_ge (by omega)]
      have f1 : wr.frozen? ⟨b, k, none⟩ = false := World.rowIs.frozen hrel.1 k
      have c2 : wr.cell? ⟨b2, o2 + k, none⟩ = some (.int .u8 (x k : Int)) := hrel.2.cell (HC.out k hlt) H2.out
      have hzk := hz k hlt
      have hxk := hx k hlt
      have hfull := Lib.hid (HF.out.ch hrel.2 HG.out)
      have hml := Gf.mul_lt (x k) s.toNat
      have i1 : (0 : Int) ≤ (k : Int) := Int.natCast_nonneg _
      have i2 : (k : Int) < (m : Int) := by omega
      have i3 : (k : Int) < (l2 : Int) := by omega
      go_wp2
      go_region_with (first | (go_at_call 50; refine (mul_full _ _ _ (by omega) (by omega) (by omega) s1 _ (hfull.out.drewN 1)).mono ?_; rintro e w1 ⟨rfl, n, rfl⟩) | (go_at_call 43; refine (add_any _ _ _ (by omega) (by omega) (by omega) (by omega) _).mono ?_; rintro e w1 ⟨rfl, rfl⟩))
      all_goals
        rw [← HY.out k]
        have hnext := hrel.stepN (n := 1 + n)
        go_wp2
        go_roundw
        case rel => exact ⟨k + 1, by omega, by go_num, hnext⟩
        case measure => simp [intOf]; omega
    · go_wp2
      go_end0
      exact ⟨rfl, hrel.done (by omega), hrel.2⟩
theorem xr_zero (a : Nat) : xr a 0 = a := Nat.xor_zero a
set_option maxHeartbeats 400000 in
theorem addTimes_none (v row other : Value) (hr : ∃ A n c, row = .slice A n c) (ho : ∃ A n c, other = .slice A n c) (w : World) :
    Calls Try.prog 37 #[v, row, other, .int .u8 0] w fun e w' => e = .returned (.tuple #[]) ∧ w = w' := by
  obtain ⟨A, n, c, rfl⟩ := hr
  obtain ⟨A2, n2, c2, rfl⟩ := ho
  go_enter Try.func37, Try.ntmps37
  go_wp2
  refine bodyPost_ret (results_none rfl _ _ _) rfl ?_
  exact ⟨rfl, rfl⟩
theorem addTimes_any (g b m b2 o2 l2 c2 : Nat) (s : Int) (s0 : 0 ≤ s) (s1 : s < 256) (z x : Nat → Nat) (w : World) (hm : m ≤ 8192) (hml : m ≤ l2) (hl2 : l2 ≤ 140737488351232) (hf : fullAt w g) (hgb : g ≠ b) (hb2 : b2 ≠ b) (hr : bRow w b m z) (hz : Bytes m z) (hx : Bytes m x)
    (hc : ∀ c, c < m → w.cell? ⟨b2, o2 + c, none⟩ = some (.int .u8 (x c : Int))) :
    Calls Try.prog 37 #[.pointer (some ⟨g, 0, none⟩), .slice (some ⟨b, 0, none⟩) m m, .slice (some ⟨b2, o2, none⟩) l2 c2, .int .u8 s] w (RowPost b m (fun c => xr (z c) (Gf.mul (x c) s.toNat)) w) := by
  by_cases h : s = 0
  · subst h
    refine (addTimes_none _ _ _ ⟨_, _, _, rfl⟩ ⟨_, _, _, rfl⟩ w).mono ?_
    rintro e w' ⟨rfl, rfl⟩
    refine ⟨rfl, World.rowIs.congr hr fun c _ => ?_, Ch.refl _ _⟩
    show _ = Value.int .u8 (xr (z c) (Gf.mul (x c) 0) : Int)
    rw [Gf.mul_zero, xr_zero]
  · exact addTimes_some g b m b2 o2 l2 c2 s (by omega) s1 z x w hm hml hl2 hf hgb hb2 hr hz hx hc
#print axioms times_any
#print axioms addTimes_any
end Go.Proofs.Ytlgdajmidcdiaaa
