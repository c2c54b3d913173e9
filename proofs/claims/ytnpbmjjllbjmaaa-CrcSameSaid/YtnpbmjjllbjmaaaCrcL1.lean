/-
  CrcSums and CrcParts, walked.
-/
import Derived.Test.YtnpbmjjllbjmaaaCrcW
namespace Go.Proofs.Ytnpbmjjllbjmaaa
open Go.RowKit
set_option linter.unusedVariables false

theorem eqB_refl (n : Nat) (z : Nat → Nat) : eqB n n z z = true := decide_eq_true ⟨rfl, fun _ _ => rfl⟩
set_option maxHeartbeats 1600000 in
set_option maxRecDepth 100000 in
theorem crcSums_of (va : Value) (w : World) {n : Nat} {z : Nat → Nat} (ha : RowV w va n z) : Calls Try.prog 3 #[va] w (Told w) := by
  obtain ⟨A, C, rfl, hl, _⟩ := id ha
  have hl1 := hl.1
  have HA := Lib.hid ha
  have HB := Lib.hid ha.bytes
  clear ha hl
  by_cases h : n ≤ 2000
  case neg =>
    have t1 : decide ((2000 : Int) < (n : Int)) = true := by simp; omega
    go_enter Try.func3, Try.ntmps3
    go_wp2_with fail
    refine (awake_any _).mono ?_
    rintro e w1 ⟨rfl, hch1⟩
    go_wp2
    go_ret
    exact ⟨rfl, hch1⟩
  have t1 : decide ((2000 : Int) < (n : Int)) = false := by simp; omega
  go_enter Try.func3, Try.ntmps3
  go_wp2_with fail
  refine (awake_any _).mono ?_
  rintro e w1 ⟨rfl, hch1⟩
  have HC1 := Lib.hid hch1
  clear hch1
  go_wp2_with fail
  refine (seal_any _ _ _ z _ (by omega) (HA.out.gr HC1.out)).mono ?_
  rintro e w2 ⟨g2, C2, rfl, ho2, hch2⟩
  have HR2 := Lib.hid (ownsRow_rowV ho2 (by omega) (fun c _ => Crc.sealZ_lt HB.out c))
  have HC2 := Lib.hid (HC1.out.trans hch2)
  clear ho2 hch2
  go_wp2_with fail
  refine (rseal_any _ _ _ z _ (by omega) (HA.out.gr HC2.out)).mono ?_
  rintro e w3 ⟨g3, C3, rfl, ho3, hch3⟩
  have HR3 := Lib.hid (ownsRow_rowV ho3 (by omega) (fun c _ => Crc.sealZ_lt HB.out c))
  have HR2' := Lib.hid (HR2.out.gr hch3)
  have HC3 := Lib.hid (HC2.out.trans hch3)
  clear ho3 hch3
  go_wp2_with fail
  refine (same_any _ _ _ _ _ _ _ _ _ HR2'.out HR3.out).mono ?_
  rintro e w4 ⟨rfl, d, rfl⟩
  rw [eqB_refl]
  have HC4 := Lib.hid (HC3.out.drewN d)
  obtain ⟨w4, hw4⟩ : ∃ w4, w4 = w3.drewN d := ⟨_, rfl⟩
  rw [← hw4] at HC4 ⊢
  clear hw4
  go_wp2_with fail
  refine (sum_any _ _ _ z _ (HA.out.gr HC4.out)).mono ?_
  rintro e w5 ⟨rfl, hch5⟩
  have HC5 := Lib.hid (HC4.out.trans hch5)
  clear hch5
  go_wp2_with fail
  refine (rsum_any _ _ _ z _ (HA.out.gr HC5.out)).mono ?_
  rintro e w6 ⟨rfl, rfl⟩
  go_wp2_with fail
  refine (whole_any _ _ _ z _ (HA.out.gr HC5.out)).mono ?_
  rintro e w7 ⟨rfl, hch7⟩
  have HC7 := Lib.hid (HC5.out.trans hch7)
  clear hch7
  go_wp2_with fail
  refine (rwhole_any _ _ _ z _ (by omega) (HA.out.gr HC7.out)).mono ?_
  rintro e w8 ⟨rfl, hch8⟩
  obtain ⟨q, hq⟩ : ∃ q, q = Crc.wholeB n z := ⟨_, rfl⟩
  rw [← hq]
  clear hq
  cases q <;> (go_wp2; go_ret; exact ⟨rfl, HC7.out.trans hch8⟩)
#print axioms crcSums_of

/-! ### CrcParts -/
theorem r0_sum {s : Nat} (h : s < 4294967296) (t : Int) : r0 ((s : Int) + t * 4294967296) = s ^^^ 4294967295 := by
  unfold r0
  rw [show ((s : Int) + t * 4294967296) % 4294967296 = (s : Int) by omega, Int.toNat_natCast]
theorem r0_sum0 {s : Nat} (h : s < 4294967296) : r0 (s : Int) = s ^^^ 4294967295 := by
  have := r0_sum h 0
  rwa [Int.zero_mul, Int.add_zero] at this
theorem parts_more (n m : Nat) (z y : Nat → Nat) (hz : Bytes n z) (t : Int) : Crc.reg (r0 ((Crc.sumZ n z : Int) + t * 4294967296)) y m ^^^ 4294967295 = Crc.sumZ (n + m) (jnZ n z y) := by
  rw [r0_sum (Crc.sumZ_lt hz)]
  exact Crc.sum_more n m z y
theorem parts_more0 (n m : Nat) (z y : Nat → Nat) (hz : Bytes n z) : Crc.reg (r0 (Crc.sumZ n z : Int)) y m ^^^ 4294967295 = Crc.sumZ (n + m) (jnZ n z y) := by
  rw [r0_sum0 (Crc.sumZ_lt hz)]
  exact Crc.sum_more n m z y
theorem parts_none (n : Nat) (z y : Nat → Nat) (hz : Bytes n z) : Crc.reg (r0 (Crc.sumZ n z : Int)) y 0 ^^^ 4294967295 = Crc.sumZ n z := by
  rw [r0_sum0 (Crc.sumZ_lt hz)]
  show Crc.sumZ n z ^^^ 4294967295 ^^^ 4294967295 = _
  rw [Nat.xor_assoc, Nat.xor_self, Nat.xor_zero]
set_option maxHeartbeats 1600000 in
set_option maxRecDepth 100000 in
theorem crcParts_short (A B : Option Addr) (n m C D : Nat) (t : Int) (w : World) (hn : n ≤ 140737488351232) (hm : m ≤ 140737488351232) (h : ¬ (n ≤ 2000 ∧ m ≤ 2000 ∧ -1000 ≤ t ∧ t ≤ 1000)) : Calls Try.prog 4 #[.slice A n C, .slice B m D, .int .i64 t] w (Told w) := by
  by_cases h1 : n ≤ 2000
  case neg =>
    have t1 : decide ((2000 : Int) < (n : Int)) = true := by simp; omega
    clear h
    go_enter Try.func4, Try.ntmps4
    go_wp2_with fail
    refine (awake_any _).mono ?_
    rintro e w1 ⟨rfl, hch1⟩
    go_wp2
    go_ret
    exact ⟨rfl, hch1⟩
  have t1 : decide ((2000 : Int) < (n : Int)) = false := by simp; omega
  by_cases h2 : m ≤ 2000
  case neg =>
    have t2 : decide ((2000 : Int) < (m : Int)) = true := by simp; omega
    clear h
    go_enter Try.func4, Try.ntmps4
    go_wp2_with fail
    refine (awake_any _).mono ?_
    rintro e w1 ⟨rfl, hch1⟩
    go_wp2
    go_ret
    exact ⟨rfl, hch1⟩
  have t2 : decide ((2000 : Int) < (m : Int)) = false := by simp; omega
  by_cases h3 : -1000 ≤ t
  case neg =>
    have t3 : decide (t < -1000) = true := by simp; omega
    clear h
    go_enter Try.func4, Try.ntmps4
    go_wp2_with fail
    refine (awake_any _).mono ?_
    rintro e w1 ⟨rfl, hch1⟩
    go_wp2
    go_ret
    exact ⟨rfl, hch1⟩
  have t3 : decide (t < -1000) = false := by simp; omega
  have t4 : decide (1000 < t) = true := by simp; omega
  clear h
  go_enter Try.func4, Try.ntmps4
  go_wp2_with fail
  refine (awake_any _).mono ?_
  rintro e w1 ⟨rfl, hch1⟩
  go_wp2
  go_ret
  exact ⟨rfl, hch1⟩
set_option maxHeartbeats 3200000 in
set_option maxRecDepth 100000 in
theorem crcParts_main (A B : Option Addr) (n m C D : Nat) (t : Int) (w : World) {z y : Nat → Nat} (ha : RowV w (.slice A n C) n z) (hb : RowV w (.slice B m D) m y) (hn : n ≤ 2000) (hm : m ≤ 2000) (ht : -1000 ≤ t) (ht2 : t ≤ 1000) : Calls Try.prog 4 #[.slice A n C, .slice B m D, .int .i64 t] w (Told w) := by
  have HA := Lib.hid ha
  have HB := Lib.hid hb
  have HZ := Lib.hid ha.bytes
  have HY := Lib.hid hb.bytes
  have HM0 := Lib.hid (parts_more0 n m z y ha.bytes)
  have HMT := Lib.hid (parts_more n m z y ha.bytes t)
  have HMN := Lib.hid (parts_none n z y ha.bytes)
  have HSL := Lib.hid (Crc.sumZ_lt ha.bytes)
  have t1 : decide ((2000 : Int) < (n : Int)) = false := by simp; omega
  have t2 : decide ((2000 : Int) < (m : Int)) = false := by simp; omega
  have t3 : decide (t < -1000) = false := by simp; omega
  have t4 : decide (1000 < t) = false := by simp; omega
  clear ha hb
  obtain ⟨S, hS⟩ : ∃ S, S = Crc.sumZ n z := ⟨_, rfl⟩
  obtain ⟨M, hM⟩ : ∃ M, M = Crc.sumZ (n + m) (jnZ n z y) := ⟨_, rfl⟩
  rw [← hS, ← hM] at HM0 HMT
  rw [← hS] at HMN HSL
  have HS := Lib.hid hS
  have HM := Lib.hid hM
  have hSb : S ≤ 4294967296 := by have := HSL.out; omega
  have t5 : decide ((S : Int) < 4294967296) = true := by have := HSL.out; simp; omega
  have t6 : decide ((0 : Int) ≤ (S : Int)) = true := by simp
  clear hS hM
  go_enter Try.func4, Try.ntmps4
  go_wp2_with fail
  refine (awake_any _).mono ?_
  rintro e w1 ⟨rfl, hch1⟩
  have HC1 := Lib.hid hch1
  clear hch1
  go_wp2_with fail
  refine (sum_any _ _ _ z _ (HA.out.gr HC1.out)).mono ?_
  rintro e w2 ⟨rfl, hch2⟩
  rw [← HS.out]
  have HC2 := Lib.hid (HC1.out.trans hch2)
  clear hch2
  obtain ⟨v3, w3, hr3, ho3, hch3⟩ := app_copy (HA.out.gr HC2.out) (by omega)
  obtain ⟨v4, w4, hr4, ho4, hg4, _⟩ := app_row ho3 hch3.size (HB.out.gr (HC2.out.trans hch3)) (by omega)
  have hch4 : Ch (fun _ => False) w2 w4 := hch3.grown hg4 (fun i e => Or.inr (World.ownsRow.lt ho3 i e).1)
  have hR4 := ownsRow_rowV ho4 (by omega) (jnZ_b HZ.out HY.out)
  obtain ⟨A4, C4, rfl, _⟩ := id hR4
  have HR3 := Lib.hid hr3
  have HR4 := Lib.hid hr4
  have HV4 := Lib.hid hR4
  have HC4 := Lib.hid (HC2.out.trans hch4)
  clear hr3 ho3 hch3 hr4 ho4 hg4 hch4 hR4
  go_wp2_with (first | (at_builtin; refine wpList_app_of _ rfl (.const (.slice none 0 0)) (.tmp 34) rfl rfl (.slice none 0 0) (.slice A n C) v3 w3 rfl rfl HR3.out ?_) | (at_builtin; refine wpList_app_of _ rfl (.tmp 35) (.tmp 36) rfl rfl v3 (.slice B m D) (.slice A4 (n + m) C4) w4 rfl rfl HR4.out ?_))
  refine (more_any _ _ _ _ y _ (HB.out.gr HC4.out)).mono ?_
  rintro e w5 ⟨rfl, hch5⟩
  rw [HM0.out]
  have HC5 := Lib.hid (HC4.out.trans hch5)
  have HV5 := Lib.hid (HV4.out.gr hch5)
  clear hch5
  go_wp2_with fail
  refine (sum_any _ _ _ _ _ HV5.out).mono ?_
  rintro e w6 ⟨rfl, hch6⟩
  rw [← HM.out]
  have HC6 := Lib.hid (HC5.out.trans hch6)
  have HV6 := Lib.hid (HV5.out.gr hch6)
  clear hch6
  go_wp2_with fail
  refine (more_any _ _ _ _ y _ (HB.out.gr HC6.out)).mono ?_
  rintro e w7 ⟨rfl, hch7⟩
  rw [HMT.out]
  have HC7 := Lib.hid (HC6.out.trans hch7)
  have HV7 := Lib.hid (HV6.out.gr hch7)
  clear hch7
  go_wp2_with fail
  refine (sum_any _ _ _ _ _ HV7.out).mono ?_
  rintro e w8 ⟨rfl, hch8⟩
  rw [← HM.out]
  have HC8 := Lib.hid (HC7.out.trans hch8)
  clear hch8
  go_wp2_with fail
  refine (more_any _ _ _ _ y _ (nil_row w8 y)).mono ?_
  rintro e w9 ⟨rfl, hch9⟩
  rw [HMN.out]
  go_wp2
  go_ret
  exact ⟨rfl, HC8.out.trans hch9⟩
theorem crcParts_of (va vb : Value) (t : Int) (w : World) {n m : Nat} {z y : Nat → Nat} (ha : RowV w va n z) (hb : RowV w vb m y) (ht : -9223372036854775808 ≤ t ∧ t ≤ 9223372036854775807) : Calls Try.prog 4 #[va, vb, .int .i64 t] w (Told w) := by
  obtain ⟨A, C, rfl, hl, _⟩ := id ha
  obtain ⟨B, D, rfl, hm, _⟩ := id hb
  by_cases h : n ≤ 2000 ∧ m ≤ 2000 ∧ -1000 ≤ t ∧ t ≤ 1000
  · exact crcParts_main A B n m C D t w ha hb h.1 h.2.1 h.2.2.1 h.2.2.2
  · exact crcParts_short A B n m C D t w hl.1 hm.1 h
#print axioms crcParts_of
end Go.Proofs.Ytnpbmjjllbjmaaa
