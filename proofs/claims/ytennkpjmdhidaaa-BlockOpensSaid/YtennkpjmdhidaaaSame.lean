/-
  The document's Same (quartermasterref04), walked.
-/
import Derived.Test.YtennkpjmdhidaaaByt
namespace Go.Proofs.Ytennkpjmdhidaaa
open Go.RowKit
set_option linter.unusedVariables false

def eqB (n m : Nat) (z y : Nat → Nat) : Bool := decide (n = m ∧ ∀ c, c < n → z c = y c)
/-! ### Same -/
theorem RowV.at {w : World} {A : Option Addr} {n C : Nat} {z : Nat → Nat} (h : RowV w (.slice A n C) n z) (hn : 0 < n) : ∃ b o, A = some ⟨b, o, none⟩ ∧ ∀ c, c < n → w.cell? ⟨b, o + c, none⟩ = some (.int .u8 (z c : Int)) := by
  obtain ⟨_, _, e, _, h3⟩ := h
  injection e with e _ _
  subst e
  obtain ⟨b, o, rfl, h4⟩ := h3 hn
  exact ⟨b, o, rfl, fun c hc => (h4 c hc).1⟩
set_option maxHeartbeats 800000 in
set_option maxRecDepth 100000 in
theorem same_any (A B : Option Addr) (n m C D : Nat) (z y : Nat → Nat) (w : World) (h : RowV w (.slice A n C) n z) (h2 : RowV w (.slice B m D) m y) : Calls Try.prog 11 #[.slice A n C, .slice B m D] w (Qu (.bool (eqB n m z y)) w) := by
  obtain ⟨_, _, _, hl, _⟩ := id h
  have hl1 := hl.1
  obtain ⟨_, _, _, hm, _⟩ := id h2
  have hm1 := hm.1
  clear hl hm
  by_cases e : n = m
  · subst e
    have t1 : ((n : Int) != (n : Int)) = false := by simp
    have HV := Lib.hid h
    have HV2 := Lib.hid h2
    clear h h2
    go_enter Try.func11, Try.ntmps11
    go_wp2
    go_loopw [5] (fun i wr => ∃ k : Nat, k ≤ n ∧ i = .int .i64 k ∧ (∃ d, wr = w.drewN d) ∧ Hid (∀ c, c < k → z c = y c)) (fun i _ => n - (intOf i).toNat)
    case atStart => exact ⟨0, Nat.zero_le _, rfl, ⟨0, rfl⟩, fun c hc => absurd hc (Nat.not_lt_zero c)⟩
    case round =>
      obtain ⟨k, hk, rfl, ⟨d, rfl⟩, HK⟩ := hrel
      by_cases hlt : k < n
      · obtain ⟨b, o, rfl, hc⟩ := HV.out.at (by omega)
        obtain ⟨b2, o2, rfl, hc2⟩ := HV2.out.at (by omega)
        have c1 := hc k hlt
        have c2 := hc2 k hlt
        have i1 : (0 : Int) ≤ (k : Int) := Int.natCast_nonneg _
        have i2 : (k : Int) < (n : Int) := by omega
        clear hc hc2
        by_cases q : z k = y k
        · have t2 : ((z k : Int) != (y k : Int)) = false := by simp [q]
          have HS : Hid (∀ c, c < k + 1 → z c = y c) := fun c hc => by
            by_cases e : c = k
            · rw [e]; exact q
            · exact HK c (by omega)
          clear q
          go_wp2
          go_quiet (fail)
          go_wp2
          go_roundw
          case rel => exact ⟨k + 1, by omega, by go_num, ⟨_, rfl⟩, HS⟩
          case measure => simp [intOf]; omega
        · have t2 : ((z k : Int) != (y k : Int)) = true := by simp; omega
          have HS := Lib.hid (show eqB n n z y = false from decide_eq_false fun h => q (h.2 k hlt))
          clear q
          go_wp2
          go_quiet (fail)
          go_wp2
          go_ret
          exact ⟨ret_bool HS.out.symm, _, World.drewN_drewN _ _ _⟩
      · obtain rfl : k = n := by omega
        have HS := Lib.hid (show eqB k k z y = true from decide_eq_true ⟨rfl, HK.out⟩)
        go_wp2
        go_ret
        exact ⟨ret_bool HS.out.symm, _, rfl⟩
  · have t1 : ((n : Int) != (m : Int)) = true := by simp; omega
    have HS := Lib.hid (show eqB n m z y = false from decide_eq_false fun h => e h.1)
    clear e h h2
    go_enter Try.func11, Try.ntmps11
    go_wp2
    go_ret
    exact ⟨ret_bool HS.out.symm, 0, rfl⟩
#print axioms same_any
end Go.Proofs.Ytennkpjmdhidaaa
