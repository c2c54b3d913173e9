/-
  block.number and read; the document's read (quartermasterref07), walked.
-/
import Derived.Test.YtennkpjmdhidaaaBlkE
import Derived.Test.YtennkpjmdhidaaaClo
namespace Go.Proofs.Ytennkpjmdhidaaa
open Go.RowKit
set_option linter.unusedVariables false

/-! ### a number out of bytes -/
def pk (k : Nat) : Nat := 256 ^ k
theorem pk_succ (k : Nat) : pk (k + 1) = pk k * 256 := Nat.pow_succ ..
theorem pk_pos (k : Nat) : 0 < pk k := Nat.pow_pos (by omega)
theorem pk_le {k : Nat} (h : k ≤ 4) : pk k ≤ 4294967296 := Nat.pow_le_pow_right (n := 256) (by omega) h
def nv (z : Nat → Nat) (a : Nat) : Nat → Nat
  | 0 => 0
  | k + 1 => nv z a k + z (a + k) * pk k
theorem nv_lt {z : Nat → Nat} {a : Nat} : ∀ k, (∀ i, i < k → z (a + i) < 256) → nv z a k < pk k
  | 0, _ => by show 0 < pk 0; exact pk_pos 0
  | k + 1, h => by
    have h1 := nv_lt k (fun i hi => h i (by omega))
    have h2 := h k (by omega)
    show nv z a k + z (a + k) * pk k < pk (k + 1)
    rw [pk_succ]
    have h3 : z (a + k) * pk k ≤ 255 * pk k := Nat.mul_le_mul_right _ (by omega)
    omega
theorem pow_pk (k : Nat) : (2 : Int) ^ (8 * k) = (pk k : Int) := by
  unfold pk
  rw [show (256 : Nat) = 2 ^ 8 from rfl, ← Nat.pow_mul]
  exact (Int.natCast_pow 2 (8 * k)).symm
theorem i64_or {a b : Nat} (ha : a < 4294967296) (hb : b < 4294967296) : bits .or .i64 (a : Int) (b : Int) = ((a ||| b : Nat) : Int) := by
  have hx : a ||| b < 2 ^ 32 := Nat.or_lt_two_pow (by omega) (by omega)
  have h1 : (BitVec.ofInt 64 (a : Int)).toNat = a := by
    rw [BitVec.ofInt_natCast, BitVec.toNat_ofNat]; exact Nat.mod_eq_of_lt (by omega)
  have h2 : (BitVec.ofInt 64 (b : Int)).toNat = b := by
    rw [BitVec.ofInt_natCast, BitVec.toNat_ofNat]; exact Nat.mod_eq_of_lt (by omega)
  show IntKind.i64.wrap ((BitVec.ofInt 64 (a : Int) ||| BitVec.ofInt 64 (b : Int)).toNat : Int) = _
  rw [BitVec.toNat_or, h1, h2]
  simp [IntKind.wrap, IntKind.bits, IntKind.signed]
  omega
theorem pk_two (k : Nat) : 2 ^ (8 * k) = pk k := by unfold pk; rw [show (256 : Nat) = 2 ^ 8 from rfl, ← Nat.pow_mul]
theorem or_is {S x k : Nat} (hk : k < 4) (hS : S < pk k) (hx : x < 256) : bits .or .i64 (S : Int) (wrap64 ((x : Int) * 2 ^ (8 * k))) = ((S + x * pk k : Nat) : Int) := by
  have hp := pk_le (k := k) (by omega)
  have hp1 := pk_le (k := k + 1) (by omega)
  rw [pk_succ] at hp1
  have hxp : x * pk k ≤ 255 * pk k := Nat.mul_le_mul_right _ (by omega)
  have e : wrap64 ((x : Int) * 2 ^ (8 * k)) = ((x * pk k : Nat) : Int) := by
    rw [pow_pk, ← Int.natCast_mul]
    exact IntWalk.wrap64_in _ ⟨by omega, by omega⟩
  rw [e, i64_or (by omega) (by omega)]
  have h := Nat.two_pow_add_eq_or_of_lt (i := 8 * k) (b := S) (by rw [pk_two]; exact hS) x
  rw [pk_two, Nat.mul_comm] at h
  rw [Nat.or_comm, ← h, Nat.add_comm]
set_option maxHeartbeats 800000 in
set_option maxRecDepth 100000 in
theorem number_any (A : Option Addr) (n C a wide : Nat) (z : Nat → Nat) (w : World) (h : RowV w (.slice A n C) n z) (hw : wide ≤ 4) (ha : a + wide ≤ n) (hn : n ≤ 1000000) : Calls Try.prog 33 #[.slice A n C, .int .i64 (a : Int), .int .i64 (wide : Int)] w fun e w' => e = .returned (.int .i64 (nv z a wide : Int)) ∧ w = w' := by
  have HV := Lib.hid h
  have HB := Lib.hid h.bytes
  clear h
  go_enter Try.func33, Try.ntmps33
  go_wp2
  go_loop [7, 8, 10] (fun s _ i => ∃ k : Nat, k ≤ wide ∧ i = .int .i64 k ∧ s = .int .i64 (nv z a k : Int)) (fun _ _ i => wide - (intOf i).toNat)
  case atStart => exact ⟨0, Nat.zero_le _, rfl, rfl⟩
  case round =>
    obtain ⟨k, hk, rfl, rfl⟩ := hrel
    by_cases hlt : k < wide
    · have tk : decide (k < wide) = true := by simp; omega
      obtain ⟨b, o, rfl, hc⟩ := HV.out.at (by omega)
      obtain ⟨J, hJ⟩ : ∃ J, J = a + k := ⟨_, rfl⟩
      have c1 := hc J (by omega)
      have hx : z J < 256 := HB.out J (by omega)
      have HO := Lib.hid (or_is (S := nv z a k) (x := z J) (k := k) (by omega) (nv_lt k (fun i hi => HB.out _ (by omega))) hx)
      have HS := Lib.hid (show nv z a (k + 1) = nv z a k + z J * pk k by rw [hJ]; rfl)
      have e1 : IntKind.i64.wrap ((a : Int) + (k : Int)) = (J : Int) := by rw [IntKind.wrap_i64]; omega
      have i1 : (0 : Int) ≤ (J : Int) := Int.natCast_nonneg _
      have i2 : (J : Int) < (n : Int) := by omega
      clear hc hJ
      go_wp2
      go_round
      case rel => exact ⟨k + 1, by omega, by go_num, by rw [HS.out]; exact int_eq HO.out⟩
      case measure => simp [intOf]; omega
    · obtain rfl : k = wide := by omega
      have tk : decide (k < k) = false := by simp
      go_wp2
      go_ret
      exact ⟨rfl, rfl⟩
#print axioms number_any
theorem number_still (A : Option Addr) (n C a wide : Nat) (z : Nat → Nat) (w : World) (h : RowV w (.slice A n C) n z) (hw : wide ≤ 4) (ha : a + wide ≤ n) (hn : n ≤ 1000000) : Calls Try.prog 33 #[.slice A n C, .int .i64 (a : Int), .int .i64 (wide : Int)] w fun e w' => e = .returned (.int .i64 (nv z a wide : Int)) ∧ w' = w :=
  (number_any A n C a wide z w h hw ha hn).mono fun _ _ ⟨h1, h2⟩ => ⟨h1, h2.symm⟩
theorem nv_1 (z : Nat → Nat) (a : Nat) : nv z a 1 = z a := by
  show 0 + z (a + 0) * pk 0 = z a
  rw [Nat.add_zero, show pk 0 = 1 from rfl]
  omega
theorem nv_2 (z : Nat → Nat) (a : Nat) : nv z a 2 = z a + 256 * z (a + 1) := by
  show 0 + z (a + 0) * pk 0 + z (a + 1) * pk 1 = _
  rw [Nat.add_zero, show pk 0 = 1 from rfl, show pk 1 = 256 from rfl]
  omega
theorem nv_4 (z : Nat → Nat) (a : Nat) : nv z a 4 = numZ z a := by
  show 0 + z (a + 0) * pk 0 + z (a + 1) * pk 1 + z (a + 2) * pk 2 + z (a + 3) * pk 3 = _
  rw [Nat.add_zero, show pk 0 = 1 from rfl, show pk 1 = 256 from rfl, show pk 2 = 65536 from rfl, show pk 3 = 16777216 from rfl]
  unfold numZ Crc.le4
  omega

/-! ### the document's read -/
set_option maxHeartbeats 800000 in
set_option maxRecDepth 100000 in
theorem rread_any (A : Option Addr) (n C : Nat) (z : Nat → Nat) (w : World) (h : RowV w (.slice A n C) n z) (hn : n ≤ 4) : Calls Try.prog 27 #[.slice A n C] w fun e w' => e = .returned (.int .i64 (nv z 0 n : Int)) ∧ w = w' := by
  have HV := Lib.hid h
  have HB := Lib.hid h.bytes
  have HPL := Lib.hid (fun k => @pk_le k)
  clear h
  go_enter Try.func27, Try.ntmps27
  go_wp2
  go_loop [3, 4, 5] (fun s p i => ∃ k : Nat, k ≤ n ∧ i = .int .i64 k ∧ s = .int .i64 (nv z 0 k : Int) ∧ p = .int .i64 (pk k : Int)) (fun _ _ i => n - (intOf i).toNat)
  case atStart => exact ⟨0, Nat.zero_le _, rfl, rfl, rfl⟩
  case round =>
    obtain ⟨k, hk, rfl, rfl, rfl⟩ := hrel
    by_cases hlt : k < n
    · have tk : decide (k < n) = true := by simp; omega
      obtain ⟨b, o, rfl, hc⟩ := HV.out.at (by omega)
      have c1 := hc k (by omega)
      have hx : z k < 256 := HB.out k (by omega)
      have hp := HPL.out (k := k + 1) (by omega)
      rw [pk_succ] at hp
      have hlt2 := nv_lt (z := z) (a := 0) k (fun i hi => by rw [Nat.zero_add]; exact HB.out i (by omega))
      have hxp : z k * pk k ≤ 255 * pk k := Nat.mul_le_mul_right _ (by omega)
      have HS := Lib.hid (show (nv z 0 k : Int) + (z k : Int) * (pk k : Int) = (nv z 0 (k + 1) : Int) by
        show _ = ((nv z 0 k + z (0 + k) * pk k : Nat) : Int)
        rw [Nat.zero_add, Int.natCast_add, Int.natCast_mul])
      have HP := Lib.hid (pk_succ k)
      have i1 : (0 : Int) ≤ (k : Int) := Int.natCast_nonneg _
      have i2 : (k : Int) < (n : Int) := by omega
      have hpk : pk k * 256 ≤ 4294967296 := hp
      have hS2 : nv z 0 k ≤ 4294967296 := by omega
      clear hc hp hlt2
      go_wp2
      go_round
      case rel => exact ⟨k + 1, by omega, by go_num, int_eq HS.out, by rw [HP.out]; go_num⟩
      case measure => simp [intOf]; omega
    · obtain rfl : k = n := by omega
      have tk : decide (k < k) = false := by simp
      go_wp2
      go_ret
      exact ⟨rfl, rfl⟩
#print axioms rread_any
end Go.Proofs.Ytennkpjmdhidaaa
