/-
  The calls that only read matrices, walked: mat.May, mat.pivot; the document's May, Few, Same.
-/
import Derived.Test.YtlgdajmidcdiaaaBlank
namespace Go.Proofs.Ytlgdajmidcdiaaa
open Go.RowKit
set_option linter.unusedVariables false

def mayB (n : Nat) (L : Nat → Nat) : Bool := decide (1 ≤ n ∧ n ≤ 64 ∧ 1 ≤ L 0 ∧ L 0 ≤ 4096 ∧ ∀ r, r < n → L r = L 0)
theorem mayB_true {n : Nat} {L : Nat → Nat} (h : mayB n L = true) : 1 ≤ n ∧ n ≤ 64 ∧ 1 ≤ L 0 ∧ L 0 ≤ 4096 ∧ ∀ r, r < n → L r = L 0 := of_decide_eq_true h
theorem mayB_mk {n : Nat} {L : Nat → Nat} (h : 1 ≤ n ∧ n ≤ 64 ∧ 1 ≤ L 0 ∧ L 0 ≤ 4096 ∧ ∀ r, r < n → L r = L 0) : mayB n L = true := decide_eq_true h
theorem mayB_no {n : Nat} {L : Nat → Nat} (h : ¬ (1 ≤ n ∧ n ≤ 64 ∧ 1 ≤ L 0 ∧ L 0 ≤ 4096 ∧ ∀ r, r < n → L r = L 0)) : mayB n L = false := decide_eq_false h

/-- The rows of a matrix that has some, as the walk asks for them. -/
theorem MatV.some {w : World} {v : Value} {n : Nat} {L : Nat → Nat} {Z : Nat → Nat → Nat} (h : MatV w v n L Z) (hn : 0 < n) :
    ∃ b o C, v = .slice (some ⟨b, o, none⟩) n C ∧ n ≤ 140737488351232 ∧ ∀ r, r < n → ∃ (A : Option Addr) (D : Nat), w.cell? ⟨b, o + r, none⟩ = some (.slice A (L r) D) ∧ L r ≤ 140737488351232 ∧ (0 < L r → ∃ b o, A = some ⟨b, o, none⟩ ∧ ∀ c, c < L r → w.cell? ⟨b, o + c, none⟩ = some (.int .u8 (Z r c : Int)) ∧ Z r c < 256) := by
  obtain ⟨A, C, rfl, hb, h3⟩ := h
  obtain ⟨b, o, rfl, h4⟩ := h3 hn
  refine ⟨b, o, C, rfl, hb.1, fun r hr => ?_⟩
  obtain ⟨x, hx, A, D, rfl, h5, h6⟩ := h4 r hr
  exact ⟨A, D, hx, h5.1, h6⟩
theorem MatV.none {w : World} {v : Value} {L : Nat → Nat} {Z : Nat → Nat → Nat} (h : MatV w v 0 L Z) : ∃ A C, v = .slice A 0 C := by
  obtain ⟨A, C, rfl, _, _⟩ := h
  exact ⟨A, C, rfl⟩

set_option maxHeartbeats 800000 in
theorem may_any (v : Value) (n : Nat) (L : Nat → Nat) (Z : Nat → Nat → Nat) (w : World) (h : MatV w v n L Z) :
    Calls Try.prog 21 #[v] w fun e w' => e = .returned (.bool (mayB n L)) ∧ w = w' := by
  by_cases hn : 0 < n
  · obtain ⟨b, o, C, rfl, hb, hr⟩ := h.some hn
    clear h
    by_cases h64 : n ≤ 64
    · obtain ⟨A0, D0, c0, l0, _⟩ := hr 0 hn
      rw [Nat.add_zero] at c0
      have HR := Lib.hid hr
      clear hr
      have i0 : (0 : Int) < (n : Int) := by omega
      have t1 : decide ((n : Int) < 1) = false := by simp; omega
      have t2 : decide ((64 : Int) < (n : Int)) = false := by simp; omega
      by_cases hl1 : 1 ≤ L 0
      · have t3 : decide ((L 0 : Int) < 1) = false := by simp; omega
        by_cases hl2 : L 0 ≤ 4096
        · have t4 : decide ((4096 : Int) < (L 0 : Int)) = false := by simp; omega
          go_enter Try.func21, Try.ntmps21
          go_wp2
          go_loop [25, 4] (fun i _ => ∃ k : Nat, k ≤ n ∧ i = .int .i64 k ∧ Hid (∀ r, r < k → L r = L 0)) (fun i _ => n - (intOf i).toNat)
          case atStart => exact ⟨0, Nat.zero_le _, rfl, fun r hr => absurd hr (Nat.not_lt_zero r)⟩
          case round =>
            obtain ⟨k, hk, rfl, HK⟩ := hrel
            by_cases hlt : k < n
            · obtain ⟨Ak, Dk, ck, lk, _⟩ := HR.out k hlt
              by_cases he : L k = L 0
              · have hb' : ((L k : Int) != (L 0 : Int)) = false := by simp [he]
                have HS : Hid (∀ r, r < k + 1 → L r = L 0) := fun r hr => by
                  by_cases e : r = k
                  · rw [e]; exact he
                  · exact HK r (by omega)
                clear he
                go_wp2
                go_round
                case rel => exact ⟨k + 1, by omega, by go_num, HS⟩
                case measure => simp [intOf]; omega
              · have hb' : ((L k : Int) != (L 0 : Int)) = true := by simp; omega
                have HS := Lib.hid (mayB_no (n := n) (L := L) (fun q => he (q.2.2.2.2 k hlt)))
                clear he
                go_wp2
                go_ret
                exact ⟨ret_bool HS.out.symm, rfl⟩
            · have HE := Lib.hid (show k = n by omega)
              go_wp2
              go_ret
              refine ⟨ret_bool (mayB_mk ⟨by omega, h64, hl1, hl2, fun r hr => HK.out r (by have := HE.out; omega)⟩).symm, rfl⟩
        · have t4 : decide ((4096 : Int) < (L 0 : Int)) = true := by simp; omega
          have HS := Lib.hid (mayB_no (n := n) (L := L) (fun q => hl2 q.2.2.2.1))
          go_enter Try.func21, Try.ntmps21
          go_wp2
          go_ret
          exact ⟨ret_bool HS.out.symm, rfl⟩
      · have t3 : decide ((L 0 : Int) < 1) = true := by simp; omega
        have HS := Lib.hid (mayB_no (n := n) (L := L) (fun q => hl1 q.2.2.1))
        go_enter Try.func21, Try.ntmps21
        go_wp2
        go_ret
        exact ⟨ret_bool HS.out.symm, rfl⟩
    · have t1 : decide ((n : Int) < 1) = false := by simp; omega
      have t2 : decide ((64 : Int) < (n : Int)) = true := by simp; omega
      have HS := Lib.hid (mayB_no (n := n) (L := L) (fun q => h64 q.2.1))
      go_enter Try.func21, Try.ntmps21
      go_wp2
      go_ret
      exact ⟨ret_bool HS.out.symm, rfl⟩
  · obtain rfl : n = 0 := by omega
    obtain ⟨A, C, rfl⟩ := h.none
    have HS := Lib.hid (mayB_no (n := 0) (L := L) (fun q => by omega))
    go_enter Try.func21, Try.ntmps21
    go_wp2
    go_ret
    exact ⟨ret_bool HS.out.symm, rfl⟩
#print axioms may_any
end Go.Proofs.Ytlgdajmidcdiaaa
