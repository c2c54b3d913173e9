/-
  The document's Same (of one list twice) and Deep, walked.
-/
import Derived.Test.YtkpgaejmhddkdaaTrFe
import Derived.Laws.StructEq
namespace Go.Proofs.Ytkpgaejmhddkdaa
open Go.RowKit
set_option linter.unusedVariables false
set_option maxRecDepth 100000
set_option linter.unusedSimpArgs false

theorem fields_pr : Try.prog.underlying 48 = some (.struct (Try.prog.fieldsOf 48)) := by kernel_rfl
theorem held_pr : Try.prog.stoodInHeld 48 = false := by kernel_rfl
theorem guard_pr : Try.prog.eqGuardType Try.prog.depth 48 = false := by kernel_rfl
theorem neq_pr (a : ByteArray) (i : Int) (w : World) : (binOp .neq 48 (.agg #[.string a, .int .i64 i]) (.agg #[.string a, .int .i64 i])).run Try.prog w = .ok (.bool false) w := by
  have u3 : Try.prog.underlying /-t-/3 = some (.int .i64) := by kernel_rfl
  have u4 : Try.prog.underlying 9 = some .string := by kernel_rfl
  have a3 := Try.isAgg3
  have z3 := Try.sizeOf3
  have a4 := Try.isAgg9
  have z4 := Try.sizeOf9
  rw [run_neq_struct, show (10000 : Nat) = 9999 + 1 from rfl, run_equalIn_struct w _ _ _ _ fields_pr held_pr]
  simp only [Program.fieldsOf, Try.underlying48]
  go_simp
#print axioms neq_pr
set_option maxHeartbeats 1600000 in
theorem rsame_any (A A2 : Option Addr) (C C2 : Nat) (L : List Kv) (w : World) (h : FlV kdKv w A C L) (h2 : FlV kdKv w A2 C2 L) (hL : L.length ≤ 1000000) : Calls Try.prog 17 #[.slice A L.length C, .slice A2 L.length C2] w (Tid (.bool true) w) := by
  have HV := Lib.hid (And.intro h h2)
  obtain ⟨n, hn⟩ : ∃ n, n = L.length := ⟨_, rfl⟩
  rw [← hn] at hL ⊢
  have HN := Lib.hid hn
  have n0 : (0 : Int) ≤ (n : Int) := Int.natCast_nonneg _
  have n1 : (n : Int) ≤ 1000000 := by omega
  clear h h2 hn hL
  go_enter Try.func17, Try.ntmps17
  go_wp2
  go_loopw [5] (fun i wr => ∃ j : Nat, j ≤ n ∧ i = .int .i64 (j : Int) ∧ Hid (Ch (fun _ => False) w wr)) (fun i _ => n - (intOf i).toNat)
  case atStart => exact ⟨0, Nat.zero_le _, rfl, Lib.hid (Ch.refl _ _)⟩
  case round =>
    obtain ⟨j, hj, rfl, HC⟩ := hrel
    have j0 : (0 : Int) ≤ (j : Int) := Int.natCast_nonneg _
    by_cases hlt : j < n
    · have j1 : (j : Int) < (n : Int) := by omega
      have hx : L[j]? = some (L[j]'(by rw [← HN.out]; exact hlt)) := List.getElem?_eq_getElem _
      obtain ⟨x, hxe⟩ : ∃ x, L[j]? = some x := ⟨_, hx⟩
      have hv := HV.out.1.gr HC.out
      have hv2 := HV.out.2.gr HC.out
      obtain ⟨b, o, rfl, hc⟩ := hv.at' (by rw [← HN.out]; omega)
      obtain ⟨b2, o2, rfl, hc2⟩ := hv2.at' (by rw [← HN.out]; omega)
      have c0 : wr.cell? ⟨b, o + j * 2, none⟩ = some (.string x.1) := hc j x hxe 0 _ rfl
      have c1 : wr.cell? ⟨b, o + j * 2 + 1, none⟩ = some (.int .i64 x.2) := hc j x hxe 1 _ rfl
      have d0 : wr.cell? ⟨b2, o2 + j * 2, none⟩ = some (.string x.1) := hc2 j x hxe 0 _ rfl
      have d1 : wr.cell? ⟨b2, o2 + j * 2 + 1, none⟩ = some (.int .i64 x.2) := hc2 j x hxe 1 _ rfl
      have l5 := neq_pr x.1 x.2 wr.drew
      have HC2 := Lib.hid (HC.out.trans (Ch.refl (fun _ => False) wr).drew)
      clear hc hc2 hx hxe hv hv2
      go_wp2
      go_region
      go_wp2
      go_roundw
      case rel => exact ⟨j + 1, by omega, by go_num, HC2⟩
      case measure => simp [intOf]; omega
    · have j1 : ¬ (j : Int) < (n : Int) := by omega
      go_wp2
      go_ret
      exact ⟨rfl, HC.out⟩
#print axioms rsame_any
/-- How deep a tree of so many may be. -/
def DeepP (n : Nat) (w : World) (e : Ending) (w' : World) : Prop := ∃ d : Nat, e = .returned (.int .i64 (d : Int)) ∧ (∀ h : Nat, (1 ≤ h → 2 * 4 ^ (h - 1) ≤ n + 1) → (n = 0 → h = 0) → h ≤ d) ∧ d ≤ 64 ∧ Ch (fun _ => False) w w'
set_option maxHeartbeats 1600000 in
theorem rdeep_any (n : Nat) (hn : n ≤ 1000000) (w : World) : Calls Try.prog 20 #[.int .i64 (n : Int)] w (DeepP n w) := by
  have n0 : (0 : Int) ≤ (n : Int) := Int.natCast_nonneg _
  have n1 : (n : Int) ≤ 1000000 := by omega
  by_cases h0 : n = 0
  · subst h0
    have HF : Hid (DeepP 0 w (.returned (.int .i64 0)) w) := Lib.hid ⟨0, rfl, fun h _ q => by rw [q rfl]; exact Nat.le_refl 0, Nat.zero_le _, Ch.refl _ _⟩
    clear n0 n1 hn
    go_enter Try.func20, Try.ntmps20
    go_wp2
    go_ret
    exact HF.out
  · have n2 : ¬ (n : Int) = 0 := by omega
    obtain ⟨H, hH⟩ : ∃ H, H = (n + 1) / 2 := ⟨_, rfl⟩
    have hq : ((n : Int) + 1).tdiv 2 = (H : Int) := by rw [hH]; exact (Int.ofNat_tdiv (n + 1) 2).symm
    have HH := Lib.hid hH
    have HN := Lib.hid (And.intro h0 hn)
    have h7 : H ≤ 500000 := by omega
    clear hH h0 hn
    go_enter Try.func20, Try.ntmps20
    go_wp2
    go_loopw [3, 4] (fun d hf wr => ∃ e q : Nat, d = .int .i64 ((e + 1 : Nat) : Int) ∧ hf = .int .i64 (q : Int) ∧ Hid (q = H / 4 ^ e) ∧ q ≤ 500000 ∧ e + q ≤ 500000 ∧ Hid (e ≤ 0 ∨ 4 ^ e ≤ H) ∧ Hid (Ch (fun _ => False) w wr)) (fun _ hf _ => (intOf hf).toNat)
    case atStart => exact ⟨0, H, rfl, rfl, Lib.hid (by rw [Nat.pow_zero, Nat.div_one]), h7, by omega, Lib.hid (Or.inl (Nat.le_refl 0)), Lib.hid (Ch.refl _ _)⟩
    case round =>
      obtain ⟨e, q, rfl, rfl, HQ, hq7, he7, HE, HC⟩ := hrel
      have q0 : (0 : Int) ≤ (q : Int) := Int.natCast_nonneg _
      have q1 : (q : Int) ≤ 500000 := by omega
      have e0 : (0 : Int) ≤ ((e + 1 : Nat) : Int) := Int.natCast_nonneg _
      have e1 : ((e + 1 : Nat) : Int) ≤ 500001 := by omega
      by_cases hlt : 4 ≤ q
      · have l1 : (4 : Int) ≤ (q : Int) := by omega
        obtain ⟨r, hr⟩ : ∃ r, r = q / 4 := ⟨_, rfl⟩
        have hr2 : (q : Int).tdiv 4 = (r : Int) := by rw [hr]; exact (Int.ofNat_tdiv q 4).symm
        have HR : Hid (r = H / 4 ^ (e + 1)) := Lib.hid (by rw [hr, HQ.out, Nat.pow_succ, Nat.div_div_eq_div_mul])
        have HR2 := Lib.hid hr
        have HE2 : Hid (e + 1 ≤ 0 ∨ 4 ^ (e + 1) ≤ H) := Lib.hid (Or.inr (by
          have h1 := HQ.out
          have h2 : 0 < 4 ^ e := Nat.pow_pos (by omega)
          have h3 : 4 ≤ H / 4 ^ e := by rw [← h1]; exact hlt
          have h4 := (Nat.le_div_iff_mul_le h2).1 h3
          rw [Nat.pow_succ, Nat.mul_comm]
          exact h4))
        have r0 : (0 : Int) ≤ (r : Int) := Int.natCast_nonneg _
        have r1 : (r : Int) ≤ 500000 := by omega
        obtain ⟨E, hE⟩ : ∃ E : Nat, E = e + 1 := ⟨_, rfl⟩
        rw [← hE] at e0 e1
        have HEE := Lib.hid hE
        clear hr
        go_wp2
        go_roundw
        case rel => exact ⟨e + 1, r, by go_num, rfl, HR, by have := HR2.out; omega, by have := HR2.out; omega, HE2, HC⟩
        case measure => have := HR2.out; simp [intOf]; omega
      · have l1 : ¬ (4 : Int) ≤ (q : Int) := by omega
        have HF : Hid (DeepP n w (.returned (.int .i64 ((e + 1 : Nat) : Int))) wr) := Lib.hid ⟨e + 1, rfl, fun h k1 _ => by
          have h1 := HQ.out
          have h2 : 0 < 4 ^ e := Nat.pow_pos (by omega)
          have h3 : H / 4 ^ e < 4 := by rw [← h1]; omega
          have h4 := (Nat.div_lt_iff_lt_mul h2).1 h3
          by_cases hz : h ≤ e + 1
          · exact hz
          · have h5 := k1 (by omega)
            have h6 : 4 ^ (e + 1) ≤ 4 ^ (h - 1) := Nat.pow_le_pow_right (by omega) (by omega)
            rw [Nat.pow_succ] at h6
            have h8 := HH.out
            omega, by
          rcases HE.out with q | q
          · omega
          · have h8 := HH.out
            have h9 := HN.out.2
            by_cases hz : e + 1 ≤ 64
            · exact hz
            · have h6 : 4 ^ 63 ≤ 4 ^ e := Nat.pow_le_pow_right (by omega) (by omega)
              omega, HC.out⟩
        go_wp2
        go_ret
        exact HF.out
#print axioms rdeep_any
end Go.Proofs.Ytkpgaejmhddkdaa
