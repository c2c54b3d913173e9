/-
  The document's run, halves, GetNum and GetInt (quartermasterref05), walked.
-/
import Derived.Test.YtfnmdcfnojgofaaCodI
namespace Go.Proofs.Ytfnmdcfnojgofaa
open Go.RowKit Go.Shelf Cod
set_option linter.unusedVariables false

theorem RowV.at {w : World} {A : Option Addr} {n C : Nat} {z : Nat → Nat} (h : RowV w (.slice A n C) n z) (hn : 0 < n) : ∃ b o, A = some ⟨b, o, none⟩ ∧ ∀ c, c < n → w.cell? ⟨b, o + c, none⟩ = some (.int .u8 (z c : Int)) := by
  obtain ⟨_, _, e, _, h3⟩ := h
  injection e with e _ _
  subst e
  obtain ⟨b, o, rfl, h4⟩ := h3 hn
  exact ⟨b, o, rfl, fun c hc => (h4 c hc).1⟩
theorem ret_pair {a b c d : Int} (h : a = b) (k : c = d) : Ending.returned (.tuple #[.int .i64 a, .int .i64 c]) = .returned (.tuple #[.int .i64 b, .int .i64 d]) := by rw [h, k]
set_option maxHeartbeats 1000000 in
set_option maxRecDepth 100000 in
theorem run_any (A : Option Addr) (n C : Nat) (z : Nat → Nat) (k e : Nat) (w : World) (h : RowV w (.slice A n C) n z) (hr : Rd n z k e) : Calls Try.prog 30 #[.slice A n C] w fun en w' => en = .returned (.tuple #[.int .i64 (k : Int), .int .i64 (e : Int)]) ∧ w = w' := by
  obtain ⟨_, _, _, hl, _⟩ := id h
  have hl1 := hl.1
  have HV := Lib.hid h
  have HD := Lib.hid hr
  clear h hr hl
  go_enter Try.func30, Try.ntmps30
  go_wp2
  go_loop [4] (fun i => ∃ m : Nat, m ≤ n ∧ m ≤ 9 ∧ i = .int .i64 m ∧ Hid (∀ j, j < m → 128 ≤ z j)) (fun i => n - (intOf i).toNat)
  case atStart => exact ⟨0, Nat.zero_le _, by omega, rfl, fun j hj => absurd hj (Nat.not_lt_zero j)⟩
  case round =>
    obtain ⟨m, hm, hm9, rfl, HZ⟩ := hrel
    by_cases hlt : m < n
    · obtain ⟨b, o, rfl, hc⟩ := HV.out.at (by omega)
      have c1 := hc m hlt
      have hz := HV.out.bytes m hlt
      have t0 : ((m : Int) == 10) = false := by simp; omega
      clear hc
      by_cases h9 : m = 9
      · subst h9
        by_cases h1 : 1 < z 9
        · have HE := Lib.hid (rd_one HD.out (rd_long hlt HZ.out h1))
          have t1 : decide ((1 : Int) < (z 9 : Int)) = true := by simp; omega
          clear h1
          go_wp2
          go_ret2
          exact ⟨ret_pair (by rw [HE.out.1]; rfl) (by rw [HE.out.2]; rfl), rfl⟩
        · have t1 : decide ((1 : Int) < (z 9 : Int)) = false := by simp; omega
          have t2 : decide ((z 9 : Int) < 128) = true := by simp; omega
          by_cases h0 : z 9 = 0
          · have HE := Lib.hid (rd_one HD.out (rd_idle (by omega) hlt (by omega) HZ.out h0))
            have t3 : ((z 9 : Int) == 0) = true := by simp; omega
            clear h0 h1
            go_wp2
            go_ret2
            exact ⟨ret_pair (by rw [HE.out.1]; rfl) (by rw [HE.out.2]; rfl), rfl⟩
          · have HE := Lib.hid (rd_one HD.out (rd_ok hlt (by omega) HZ.out (by omega) (fun _ => by omega) (fun q => absurd q h0)))
            have t3 : ((z 9 : Int) == 0) = false := by simp; omega
            clear h0 h1
            go_wp2
            go_ret2
            exact ⟨ret_pair (by rw [HE.out.1]; rfl) (by rw [HE.out.2]; rfl), rfl⟩
      · have t9 : ((m : Int) == 9) = false := by simp; omega
        by_cases h2 : z m < 128
        · have t2 : decide ((z m : Int) < 128) = true := by simp; omega
          by_cases h0 : z m = 0
          · have t3 : ((z m : Int) == 0) = true := by simp; omega
            by_cases hp : 0 < m
            · have HE := Lib.hid (rd_one HD.out (rd_idle hp hlt hm9 HZ.out h0))
              have t4 : decide ((0 : Int) < (m : Int)) = true := by simp; omega
              have t5 : decide (0 < m) = true := by simp; omega
              clear h0 hp h2 h9
              go_wp2
              go_ret2
              exact ⟨ret_pair (by rw [HE.out.1]; rfl) (by rw [HE.out.2]; rfl), rfl⟩
            · have HE := Lib.hid (rd_one HD.out (rd_ok hlt hm9 HZ.out h2 (fun q => absurd q h9) (fun _ => by omega)))
              have t4 : decide ((0 : Int) < (m : Int)) = false := by simp; omega
              have t5 : decide (0 < m) = false := by simp; omega
              clear h0 hp h2 h9
              go_wp2
              go_ret2
              exact ⟨ret_pair (by rw [HE.out.1]; omega) (by rw [HE.out.2]; rfl), rfl⟩
          · have HE := Lib.hid (rd_one HD.out (rd_ok hlt hm9 HZ.out h2 (fun q => absurd q h9) (fun q => absurd q h0)))
            have t3 : ((z m : Int) == 0) = false := by simp; omega
            clear h0 h2 h9
            go_wp2
            go_ret2
            exact ⟨ret_pair (by rw [HE.out.1]; omega) (by rw [HE.out.2]; rfl), rfl⟩
        · have t2 : decide ((z m : Int) < 128) = false := by simp; omega
          have HZ2 : Hid (∀ j, j < m + 1 → 128 ≤ z j) := fun j hj => by
            by_cases q : j = m
            · rw [q]; omega
            · exact HZ j (by omega)
          have hm8 : m + 1 ≤ 9 := by omega
          clear h2 h9
          go_wp2
          go_round
          case rel => exact ⟨m + 1, by omega, hm8, by go_num, HZ2⟩
          case measure => simp [intOf]; omega
    · obtain rfl : m = n := by omega
      have HE := Lib.hid (rd_one HD.out (rd_short hm9 HZ.out))
      go_wp2
      go_ret2
      exact ⟨ret_pair (by rw [HE.out.1]; rfl) (by rw [HE.out.2]; rfl), rfl⟩
#print axioms run_any

/-! ### halves -/
theorem val_mono (z : Nat → Nat) {i j : Nat} (h : i ≤ j) : val z i ≤ val z j := by
  induction j with
  | zero => obtain rfl : i = 0 := by omega
            exact Nat.le_refl _
  | succ j ih =>
    by_cases q : i = j + 1
    · rw [q]; exact Nat.le_refl _
    · exact Nat.le_trans (ih (by omega)) (Nat.le_add_right _ _)
def pw (k : Nat) : Nat := 64 * 128 ^ (if k < 9 then k else 8)
theorem pw_zero : pw 0 = 64 := by decide
theorem pw_next {k : Nat} (h : k < 8) : pw (k + 1) = pw k * 128 := by unfold pw; rw [if_pos (by omega), if_pos (by omega), Nat.pow_succ]; omega
theorem pw_last : pw 9 = pw 8 := by decide
theorem pw_le {k : Nat} (h : k ≤ 8) : pw k ≤ 4611686018427387904 := by
  unfold pw
  rw [if_pos (by omega)]
  have : 128 ^ k ≤ 128 ^ 8 := Nat.pow_le_pow_right (by omega) h
  have e : (128 : Nat) ^ 8 = 72057594037927936 := by decide
  omega
theorem pw_le8 {k : Nat} (h : k < 8) : pw k * 128 ≤ 4611686018427387904 := by rw [← pw_next h]; exact pw_le (by omega)
theorem half_step (z : Nat → Nat) {k : Nat} (h : k ≤ 8) : val z (k + 2) / 2 = val z (k + 1) / 2 + z (k + 1) % 128 * pw k := by
  rw [half_next]; unfold pw; rw [if_pos (by omega)]
set_option maxHeartbeats 1000000 in
set_option maxRecDepth 100000 in
theorem halves_any (A : Option Addr) (m C : Nat) (z : Nat → Nat) (w : World) (h : RowV w (.slice A m C) m z) (hm : 0 < m) (hm10 : m ≤ 10) (hv : val z m < 18446744073709551616) :
    Calls Try.prog 31 #[.slice A m C] w fun en w' => en = .returned (.tuple #[.int .i64 ((val z m / 2 : Nat) : Int), .int .i64 ((val z m % 2 : Nat) : Int)]) ∧ w = w' := by
  have HV := Lib.hid h
  have HT := Lib.hid hv
  obtain ⟨b, o, rfl, hc⟩ := h.at hm
  have c0 := hc 0 hm
  have HC := Lib.hid hc
  have hz := h.bytes 0 hm
  have H0 := Lib.hid (show (z 0 : Int) % 128 / 2 = ((val z (0 + 1) / 2 : Nat) : Int) by rw [half_zero]; omega)
  have HO := Lib.hid (show (z 0 : Int) % 2 = ((val z m % 2 : Nat) : Int) by
    obtain ⟨j, rfl⟩ : ∃ j, m = j + 1 := ⟨m - 1, by omega⟩
    rw [odd_is]; omega)
  rw [Nat.add_zero] at c0
  have hmm : (m : Int) ≠ 0 := by omega
  clear h hv hc
  go_enter Try.func31, Try.ntmps31
  go_wp2
  go_loop [4, 6, 7] (fun hf p q => ∃ i : Nat, i + 1 ≤ m ∧ q = .int .i64 ((i : Int) + 1) ∧ p = .int .i64 (pw i : Int) ∧ hf = .int .i64 ((val z (i + 1) / 2 : Nat) : Int)) (fun _ _ q => m - (intOf q).toNat)
  case atStart => exact ⟨0, hm, rfl, by rw [pw_zero]; rfl, int_eq H0.out⟩
  case round =>
    obtain ⟨i, hi, rfl, rfl, rfl⟩ := hrel
    by_cases hlt : i + 1 < m
    · have c1 := HC.out (i + 1) hlt
      have hz1 := HV.out.bytes (i + 1) hlt
      have hstep := half_step z (k := i) (by omega)
      have hmono := val_mono z (show i + 2 ≤ m by omega)
      have hpl := pw_le (k := i) (by omega)
      have HN8 : Hid (i < 8 → pw (i + 1) = pw i * 128) := fun h => pw_next h
      have HL9 : Hid (i < 8 → pw i * 128 ≤ 4611686018427387904) := fun h => pw_le8 h
      have HL8 : Hid (i = 8 → pw (i + 1) = pw i) := fun h => by subst h; exact pw_last
      have t1 : decide ((i : Int) + 1 < (m : Int)) = true := by simp; omega
      obtain ⟨H, hH⟩ : ∃ H, H = val z (i + 1) / 2 := ⟨_, rfl⟩
      obtain ⟨P, hP⟩ : ∃ P, P = pw i := ⟨_, rfl⟩
      obtain ⟨X, hX⟩ : ∃ X, X = z (i + 1) := ⟨_, rfl⟩
      obtain ⟨Q, hQ⟩ : ∃ Q, Q = X % 128 * P := ⟨_, rfl⟩
      rw [← hH, ← hX, ← hP, ← hQ] at hstep
      rw [← hX] at c1 hz1
      rw [← hP] at hpl HN8 HL8 HL9 ⊢
      rw [← hH]
      have hlim : H + Q ≤ 9223372036854775807 := by have := HT.out; omega
      have e0 : (X : Int) % 128 * (P : Int) = (Q : Int) := by rw [hQ]; simp
      have e1 : IntKind.i64.wrap ((X : Int) % 128 * (P : Int)) = (Q : Int) := by rw [e0]; exact IntWalk.i64_in _ (by omega)
      have e2 : wrap64 ((X : Int) % 128 * (P : Int)) = (Q : Int) := by rw [e0]; exact IntWalk.wrap64_in _ (by omega)
      have HST := Lib.hid hstep
      clear hH hP hX hQ hstep hmono e0
      by_cases h8 : i < 8
      · have HP8 := Lib.hid (HN8.out h8)
        have hpl2 : P * 128 ≤ 9223372036854775807 := by have := HL9.out h8; omega
        have t2 : decide ((i : Int) + 1 < 9) = true := by simp; omega
        clear hpl
        go_wp2
        go_round
        case rel => exact ⟨i + 1, hlt, by go_num, by rw [HP8.out]; go_num, by rw [HST.out]; go_num⟩
        case measure => simp [intOf]; omega
      · have HP8 := Lib.hid (HL8.out (by omega))
        have t2 : decide ((i : Int) + 1 < 9) = false := by simp; omega
        clear hpl
        go_wp2
        go_round
        case rel => exact ⟨i + 1, hlt, by go_num, by rw [HP8.out], by rw [HST.out]; go_num⟩
        case measure => simp [intOf]; omega
    · obtain rfl : i + 1 = m := by omega
      have t1 : decide ((i : Int) + 1 < ((i + 1 : Nat) : Int)) = false := by simp
      go_wp2
      go_ret2
      exact ⟨ret_pair rfl HO.out, rfl⟩
#print axioms halves_any
end Go.Proofs.Ytfnmdcfnojgofaa
