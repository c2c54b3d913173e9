/-
  The laws of layer 1 (gf), walked out of the contracts of what they call: each returns true and leaves what was there as it was.
-/
import Derived.Test.YtdkgjmdldmldaaaAwake
import Derived.OpenShut
namespace Go.Proofs.Ytdkgjmdldmldaaa
open Go.RowKit

theorem b8 {a : Int} (h : (Lit.int .u8 a).wf = true) : 0 ≤ a ∧ a < 256 := by have := bounds_u8 h; omega
theorem b64 {a : Int} (h : (Lit.int .i64 a).wf = true) : -9223372036854775808 ≤ a ∧ a ≤ 9223372036854775807 := by have := bounds_i64 h; omega
def TruePost (w : World) (e : Ending) (w' : World) : Prop := e = .returned (.bool true) ∧ Gr w.heap.size w w'
theorem TruePost.grown {w : World} {e : Ending} {w' : World} (h : TruePost w e w') : e = .returned (.bool true) ∧ Grown w w' := ⟨h.1, h.2.grown⟩

/-- awake, and a field behind it: what every law does first. -/
theorem gfSums_any (a b : Int) (a0 : 0 ≤ a) (a1 : a < 256) (b0 : 0 ≤ b) (b1 : b < 256) (w : World) :
    Calls Try.prog 3 #[.int .u8 a, .int .u8 b] w (TruePost w) := by
  go_enter Try.func3, Try.ntmps3
  go_wp2_with fail
  refine (awake_any _).mono ?_
  rintro e w1 ⟨rfl, hg1⟩
  go_wp2_with fail
  refine (new_any _).mono ?_
  rintro e w2 ⟨rfl, hr, hg2⟩
  have hv := Rv.full hr
  clear hr
  go_wp2_with fail
  refine (add_any _ _ _ a0 a1 b0 b1 _).mono ?_
  rintro e w' ⟨rfl, rfl⟩
  go_wp2_with fail
  refine (radd_any _ _ a0 a1 b0 b1 _).mono ?_
  rintro e w' ⟨rfl, rfl⟩
  go_wp2_with fail
  refine (mul_any _ _ _ a0 a1 b0 b1 _ hv).mono ?_
  rintro e w3 ⟨rfl, hg3⟩
  go_wp2_with fail
  refine (rmul_any _ _ a0 a1 b0 b1 _).mono ?_
  rintro e w' ⟨rfl, rfl⟩
  go_wp2
  go_ret
  exact ⟨rfl, (hg1.next hg2).next hg3⟩
#print axioms gfSums_any

theorem e1 {a b c : Nat} (ha : a < 256) (hb : b < 256) (hc : c < 256) : Gf.mul a (xr b c) = xr (Gf.mul a b) (Gf.mul a c) := Gf.mul_xor ha hb hc
theorem s1 (a b : Nat) : xr a b = xr b a := Nat.xor_comm a b
theorem s2 (a b c : Nat) : xr (xr a b) c = xr a (xr b c) := Nat.xor_assoc a b c
theorem s3 (a : Nat) : xr a 0 = a := Nat.xor_zero a
theorem s4 (a : Nat) : xr a a = 0 := Nat.xor_self a
set_option maxHeartbeats 1600000 in
set_option maxRecDepth 100000 in
theorem gfField_any (a b c : Int) (a0 : 0 ≤ a) (a1 : a < 256) (b0 : 0 ≤ b) (b1 : b < 256) (c0 : 0 ≤ c) (c1 : c < 256) (w : World) :
    Calls Try.prog 6 #[.int .u8 a, .int .u8 b, .int .u8 c] w (TruePost w) := by
  obtain ⟨a, rfl⟩ := Int.eq_ofNat_of_zero_le a0
  obtain ⟨b, rfl⟩ := Int.eq_ofNat_of_zero_le b0
  obtain ⟨c, rfl⟩ := Int.eq_ofNat_of_zero_le c0
  have q1 : xr a b < 256 := Gf.xor_lt (by omega) (by omega)
  have q2 : xr b c < 256 := Gf.xor_lt (by omega) (by omega)
  have q3 := Gf.mul_lt a b
  have q4 := Gf.mul_lt b c
  have q5 := Gf.mul_lt a c
  have HA := Lib.hid (Gf.mul_assoc (a := a) (b := b) (c := c) (by omega) (by omega) (by omega))
  have HO := Lib.hid (Gf.mul_one (a := a) (by omega))
  have HX := Lib.hid (e1 (a := a) (b := b) (c := c) (by omega) (by omega) (by omega))
  go_enter Try.func6, Try.ntmps6
  go_wp2_with fail
  refine (awake_any _).mono ?_
  rintro e w1 ⟨rfl, hg1⟩
  go_wp2_with fail
  refine (new_any _).mono ?_
  rintro e w2 ⟨rfl, hr, hg2⟩
  have hv := Rv.full hr
  clear hr
  go_wp2_with fail
  refine (add_any _ _ _ (by omega) (by omega) (by omega) (by omega) _).mono ?_
  rintro e w' ⟨rfl, rfl⟩
  simp only [Int.toNat_natCast]
  go_wp2_with fail
  refine (add_any _ _ _ (by omega) (by omega) (by omega) (by omega) _).mono ?_
  rintro e w' ⟨rfl, rfl⟩
  simp only [Int.toNat_natCast]
  rw [s1 b a]
  go_wp2_with fail
  refine (add_any _ _ _ (by omega) (by omega) (by omega) (by omega) _).mono ?_
  rintro e w' ⟨rfl, rfl⟩
  simp only [Int.toNat_natCast]
  go_wp2_with fail
  refine (add_any _ _ _ (by omega) (by omega) (by omega) (by omega) _).mono ?_
  rintro e w' ⟨rfl, rfl⟩
  simp only [Int.toNat_natCast]
  go_wp2_with fail
  refine (add_any _ _ _ (by omega) (by omega) (by omega) (by omega) _).mono ?_
  rintro e w' ⟨rfl, rfl⟩
  simp only [Int.toNat_natCast]
  go_wp2_with fail
  refine (add_any _ _ _ (by omega) (by omega) (by omega) (by omega) _).mono ?_
  rintro e w' ⟨rfl, rfl⟩
  simp only [Int.toNat_natCast]
  rw [← s2]
  go_wp2_with fail
  refine (add_any _ _ _ (by omega) (by omega) (by omega) (by omega) _).mono ?_
  rintro e w' ⟨rfl, rfl⟩
  simp only [Int.toNat_natCast]
  rw [show (0 : Int).toNat = 0 from rfl, s3]
  go_wp2_with fail
  refine (add_any _ _ _ (by omega) (by omega) (by omega) (by omega) _).mono ?_
  rintro e w' ⟨rfl, rfl⟩
  simp only [Int.toNat_natCast]
  rw [s4]
  go_wp2_with fail
  refine (mul_any _ _ _ (by omega) (by omega) (by omega) (by omega) _ hv).mono ?_
  rintro e w3 ⟨rfl, hg3⟩
  simp only [Int.toNat_natCast]
  have hv3 := hv.gr hg3
  go_wp2_with fail
  refine (mul_any _ _ _ (by omega) (by omega) (by omega) (by omega) _ hv3).mono ?_
  rintro e w4 ⟨rfl, hg4⟩
  simp only [Int.toNat_natCast]
  rw [Gf.mul_comm b a]
  have hv4 := hv3.gr hg4
  go_wp2_with fail
  refine (mul_any _ _ _ (by omega) (by omega) (by omega) (by omega) _ hv4).mono ?_
  rintro e w5 ⟨rfl, hg5⟩
  simp only [Int.toNat_natCast]
  have hv5 := hv4.gr hg5
  go_wp2_with fail
  refine (mul_any _ _ _ (by omega) (by omega) (by omega) (by omega) _ hv5).mono ?_
  rintro e w6 ⟨rfl, hg6⟩
  simp only [Int.toNat_natCast]
  have hv6 := hv5.gr hg6
  go_wp2_with fail
  refine (mul_any _ _ _ (by omega) (by omega) (by omega) (by omega) _ hv6).mono ?_
  rintro e w7 ⟨rfl, hg7⟩
  simp only [Int.toNat_natCast]
  have hv7 := hv6.gr hg7
  go_wp2_with fail
  refine (mul_any _ _ _ (by omega) (by omega) (by omega) (by omega) _ hv7).mono ?_
  rintro e w8 ⟨rfl, hg8⟩
  simp only [Int.toNat_natCast]
  rw [← HA.out]
  have hv8 := hv7.gr hg8
  go_wp2_with fail
  refine (mul_any _ _ _ (by omega) (by omega) (by omega) (by omega) _ hv8).mono ?_
  rintro e w9 ⟨rfl, hg9⟩
  simp only [Int.toNat_natCast]
  rw [show (1 : Int).toNat = 1 from rfl, HO.out]
  have hv9 := hv8.gr hg9
  go_wp2_with fail
  refine (mul_any _ _ _ (by omega) (by omega) (by omega) (by omega) _ hv9).mono ?_
  rintro e w10 ⟨rfl, hg10⟩
  simp only [Int.toNat_natCast]
  rw [show (0 : Int).toNat = 0 from rfl, Gf.mul_zero]
  have hv10 := hv9.gr hg10
  go_wp2_with fail
  refine (add_any _ _ _ (by omega) (by omega) (by omega) (by omega) _).mono ?_
  rintro e w' ⟨rfl, rfl⟩
  simp only [Int.toNat_natCast]
  go_wp2_with fail
  refine (mul_any _ _ _ (by omega) (by omega) (by omega) (by omega) _ hv10).mono ?_
  rintro e w11 ⟨rfl, hg11⟩
  simp only [Int.toNat_natCast]
  rw [HX.out]
  have hv11 := hv10.gr hg11
  go_wp2_with fail
  refine (mul_any _ _ _ (by omega) (by omega) (by omega) (by omega) _ hv11).mono ?_
  rintro e w12 ⟨rfl, hg12⟩
  simp only [Int.toNat_natCast]
  have hv12 := hv11.gr hg12
  go_wp2_with fail
  refine (mul_any _ _ _ (by omega) (by omega) (by omega) (by omega) _ hv12).mono ?_
  rintro e w13 ⟨rfl, hg13⟩
  simp only [Int.toNat_natCast]
  have hv13 := hv12.gr hg13
  go_wp2_with fail
  refine (add_any _ _ _ (by omega) (by omega) (by omega) (by omega) _).mono ?_
  rintro e w' ⟨rfl, rfl⟩
  simp only [Int.toNat_natCast]
  go_wp2
  go_ret
  exact ⟨rfl, (((((((((((hg1.next hg2).next hg3).next hg4).next hg5).next hg6).next hg7).next hg8).next hg9).next hg10).next hg11).next hg12).next hg13⟩
#print axioms gfField_any
end Go.Proofs.Ytdkgjmdldmldaaa
