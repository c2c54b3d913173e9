/-
  law11's few and small: how long a row of rows, and each of them, may be.
-/
import Derived.Test.YteleknojohnlbaaGreatRinRMm
import Derived.Test.YteleknojohnlbaaGreatMg19
namespace Go.Proofs.YteleknojohnlbaaGreat
open Go.RowKit
set_option linter.unusedVariables false
set_option maxRecDepth 100000
set_option linter.unusedSimpArgs false
def fewTo (N : Nat → Nat) (t : Nat) : Nat → Bool
  | 0 => true
  | k + 1 => fewTo N t k && decide (N k ≤ t)
theorem fewTo_false {N : Nat → Nat} {t k n : Nat} (hk : k < n) (h : ¬ N k ≤ t) : fewTo N t n = false := by
  induction n with
  | zero => omega
  | succ n ih =>
    show (fewTo N t n && decide (N n ≤ t)) = false
    by_cases e : k = n
    · subst e; rw [decide_eq_false h, Bool.and_false]
    · rw [ih (by omega), Bool.false_and]
set_option maxHeartbeats 3200000 in
theorem few_any (A : Option Addr) (n C : Nat) (N : Nat → Nat) (w : World) (h : LsV w A n C N) : Calls Tryz.prog 20 #[.slice A n C] w fun e w' => e = .returned (.bool (if n ≤ 40 then fewTo N 300 n else false)) ∧ w = w' := by
  have hle := h.le
  by_cases q : n ≤ 40
  · have HE := Lib.hid (show (if n ≤ 40 then fewTo N 300 n else false) = fewTo N 300 n from if_pos q)
    have t0 : ¬ (40 : Int) < (n : Int) := by omega
    have HV := Lib.hid h
    have HQ := Lib.hid q
    clear h q
    go_enter Tryz.func20, Tryz.ntmps20
    go_wp2
    go_loopw [2, 3] (fun r i wr => ∃ k : Nat, k ≤ n ∧ i = .int .i64 k ∧ wr = w ∧ Hid (fewTo N 300 k = true)) (fun r i _ => n - (intOf i).toNat)
    case atStart => exact ⟨0, Nat.zero_le _, rfl, rfl, Lib.hid rfl⟩
    case round =>
      obtain ⟨k, hk, rfl, rfl, HT⟩ := hrel
      by_cases hlt : k < n
      · obtain ⟨b, o, rfl, hc⟩ := HV.out.at' (by omega)
        obtain ⟨A', C', h1, h2⟩ := hc k hlt
        have hNle := h2
        obtain ⟨Nk, hN⟩ : ∃ Nk, Nk = N k := ⟨_, rfl⟩
        rw [← hN] at h1 hNle
        have HNk := Lib.hid hN
        have i1 : (0 : Int) ≤ (k : Int) := Int.natCast_nonneg _
        have i2 : (k : Int) < (n : Int) := by omega
        have n3 : wrap64 ((k : Int) + 1) = ((k + 1 : Nat) : Int) := by rw [IntWalk.wrap64_in _ ⟨by omega, by omega⟩]; omega
        have HLT := Lib.hid hlt
        clear hc h2 hN
        by_cases r : Nk ≤ 300
        · have t1 : ¬ (300 : Int) < (Nk : Int) := by omega
          have HT2 := Lib.hid (show fewTo N 300 (k + 1) = true by show (fewTo N 300 k && decide (N k ≤ 300)) = true; rw [HT.out, ← HNk.out, decide_eq_true r]; rfl)
          clear r
          go_wp2
          go_roundw
          case rel => exact ⟨k + 1, HLT.out, by simp, by trivial, HT2⟩
          case measure => show n - ((k : Int) + 1).toNat < n - (k : Int).toNat; have := HLT.out; omega
        · have t1 : (300 : Int) < (Nk : Int) := by omega
          have HN := Lib.hid (show fewTo N 300 n = false from fewTo_false HLT.out (by rw [← HNk.out]; exact r))
          clear r
          go_wp2
          go_ret
          exact ⟨ret_bool HN.out.symm, rfl⟩
      · have hkn : k = n := by omega
        subst hkn
        go_wp2
        go_ret
        exact ⟨ret_bool HT.out.symm, rfl⟩
  · have HE := Lib.hid (show (if n ≤ 40 then fewTo N 300 n else false) = false from if_neg q)
    have t0 : (40 : Int) < (n : Int) := by omega
    clear h q
    go_enter Tryz.func20, Tryz.ntmps20
    go_wp2
    go_ret
    exact ⟨ret_bool rfl, rfl⟩
#print axioms few_any
set_option maxHeartbeats 3200000 in
theorem small_any (A : Option Addr) (n C : Nat) (N : Nat → Nat) (w : World) (h : LsV w A n C N) : Calls Tryz.prog 24 #[.slice A n C] w fun e w' => e = .returned (.bool (if n ≤ 12 then fewTo N 1500 n else false)) ∧ w = w' := by
  have hle := h.le
  by_cases q : n ≤ 12
  · have HE := Lib.hid (show (if n ≤ 12 then fewTo N 1500 n else false) = fewTo N 1500 n from if_pos q)
    have t0 : ¬ (12 : Int) < (n : Int) := by omega
    have HV := Lib.hid h
    have HQ := Lib.hid q
    clear h q
    go_enter Tryz.func24, Tryz.ntmps24
    go_wp2
    go_loopw [2, 3] (fun r i wr => ∃ k : Nat, k ≤ n ∧ i = .int .i64 k ∧ wr = w ∧ Hid (fewTo N 1500 k = true)) (fun r i _ => n - (intOf i).toNat)
    case atStart => exact ⟨0, Nat.zero_le _, rfl, rfl, Lib.hid rfl⟩
    case round =>
      obtain ⟨k, hk, rfl, rfl, HT⟩ := hrel
      by_cases hlt : k < n
      · obtain ⟨b, o, rfl, hc⟩ := HV.out.at' (by omega)
        obtain ⟨A', C', h1, h2⟩ := hc k hlt
        have hNle := h2
        obtain ⟨Nk, hN⟩ : ∃ Nk, Nk = N k := ⟨_, rfl⟩
        rw [← hN] at h1 hNle
        have HNk := Lib.hid hN
        have i1 : (0 : Int) ≤ (k : Int) := Int.natCast_nonneg _
        have i2 : (k : Int) < (n : Int) := by omega
        have n3 : wrap64 ((k : Int) + 1) = ((k + 1 : Nat) : Int) := by rw [IntWalk.wrap64_in _ ⟨by omega, by omega⟩]; omega
        have HLT := Lib.hid hlt
        clear hc h2 hN
        by_cases r : Nk ≤ 1500
        · have t1 : ¬ (1500 : Int) < (Nk : Int) := by omega
          have HT2 := Lib.hid (show fewTo N 1500 (k + 1) = true by show (fewTo N 1500 k && decide (N k ≤ 1500)) = true; rw [HT.out, ← HNk.out, decide_eq_true r]; rfl)
          clear r
          go_wp2
          go_roundw
          case rel => exact ⟨k + 1, HLT.out, by simp, by trivial, HT2⟩
          case measure => show n - ((k : Int) + 1).toNat < n - (k : Int).toNat; have := HLT.out; omega
        · have t1 : (1500 : Int) < (Nk : Int) := by omega
          have HN := Lib.hid (show fewTo N 1500 n = false from fewTo_false HLT.out (by rw [← HNk.out]; exact r))
          clear r
          go_wp2
          go_ret
          exact ⟨ret_bool HN.out.symm, rfl⟩
      · have hkn : k = n := by omega
        subst hkn
        go_wp2
        go_ret
        exact ⟨ret_bool HT.out.symm, rfl⟩
  · have HE := Lib.hid (show (if n ≤ 12 then fewTo N 1500 n else false) = false from if_neg q)
    have t0 : (12 : Int) < (n : Int) := by omega
    clear h q
    go_enter Tryz.func24, Tryz.ntmps24
    go_wp2
    go_ret
    exact ⟨ret_bool rfl, rfl⟩
#print axioms small_any
end Go.Proofs.YteleknojohnlbaaGreat
