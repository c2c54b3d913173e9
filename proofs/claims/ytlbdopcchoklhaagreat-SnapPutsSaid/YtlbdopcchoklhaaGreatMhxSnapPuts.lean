/-
  What SnapPuts needs besides.
-/
import Derived.Test.YtlbdopcchoklhaaGreatMh43
import Derived.Test.YtlbdopcchoklhaaGreatMh1
import Derived.Test.YtlbdopcchoklhaaGreatMh3
import Derived.Test.YtlbdopcchoklhaaGreatMh9
import Derived.Test.YtlbdopcchoklhaaGreatMh10
import Derived.Test.YtlbdopcchoklhaaGreatMh12
import Derived.Test.YtlbdopcchoklhaaGreatMh13
import Derived.Test.YtlbdopcchoklhaaGreatMh15
import Derived.Test.YtlbdopcchoklhaaGreatMh17
import Derived.Test.YtlbdopcchoklhaaGreatMh31
import Derived.Test.YtlbdopcchoklhaaGreatMh32
import Derived.Test.YtlbdopcchoklhaaGreatMh33
import Derived.Test.YtlbdopcchoklhaaGreatMh34
import Derived.ProofKit
import Derived.OpenShut
import Derived.SizedLaws
import Derived.Carry
import Derived.Test.YtlbdopcchoklhaaGreatRows
import Derived.WalkKit
import Derived.WalkSpells
import Derived.WalkLawsBesides
import Derived.Lib.Hide
import Derived.Deep.AppendLies
import Derived.Deep.RegionHeld3
namespace Go.Proofs.YtlbdopcchoklhaaGreat
open Go.ChangeShapes Go.WideShapes Go.ChangeAt Go.RowKit Go.Deep
set_option linter.unusedVariables false
set_option maxRecDepth 100000

theorem b8 {a : Int} (h : (Lit.int .u8 a).wf = true) : 0 ≤ a ∧ a < 256 := by have := bounds_u8 h; omega
theorem reach_eq : reachBytes = 140737488351232 := rfl

section
variable {H : Type} {enc : TypeId × Value → H} {P : Program}
end

theorem addr_none {w : World} {a : Addr} {v : Value} (h : w.cell? (a.add 0) = some v) : ∃ b o, a = ⟨b, o, none⟩ := by
  obtain ⟨b, o, sp⟩ := a
  have : sp = none := by simpa [Addr.add] using World.cell?_spot h
  exact ⟨b, o, by rw [this]⟩
end Go.Proofs.YtlbdopcchoklhaaGreat

namespace Go.Proofs.YtlbdopcchoklhaaGreat
open Go.ChangeShapes Go.WideShapes Go.ChangeAt Go.RowKit Go.Deep
set_option linter.unusedVariables false
set_option maxRecDepth 100000

theorem cells5 : Tryz.prog.cellsOf 5 = 1 := by kernel_rfl
theorem bytes5 : Tryz.prog.bytesOf 5 = 1 := by kernel_rfl
/-- Bytes that are handed in. -/
theorem open_row {H : Type} {enc : TypeId × Value → H} {W : World} {v : Value} {d : DataW H} {p : List MemPlace} (hv : ∃ a len cap, v = .slice a len cap) (h : DataW.Trod enc Tryz.prog W 0 (fun _ => true) true /-t-/24 v d p)
    (s1 : ∀ elems spare, d = .slice elems spare → (elems.length + spare.length) * 1 ≤ reachBytes) : ∃ n z, RowV W v n z := by
  obtain ⟨a0, len, cap, rfl⟩ := hv
  obtain ⟨fuel, hf⟩ := h
  rcases open_ints Tryz.underlying24 Tryz.underlying5 cells5 hf with ⟨hcs0, hx⟩ | ⟨a, len', cap', zs, hcs0, _, hl, hm, hzl, hx, hcell, hwf⟩
  · simp [Value.cells] at hcs0
    obtain ⟨rfl, rfl, rfl⟩ := hcs0
    exact ⟨0, fun _ => 0, nil_row _ _⟩
  · simp [Value.cells] at hcs0
    obtain ⟨rfl, rfl, rfl⟩ := hcs0
    simp only [Prod.mk.injEq] at hx
    obtain ⟨rfl, rfl⟩ := hx
    simp only [if_true] at hzl
    have hlen := s1 _ _ rfl
    simp only [lits, List.length_map, List.length_take, List.length_drop, hzl, reach_eq] at hlen
    refine ⟨len, fun c => (zs.getD c 0).toNat, some a, cap, rfl, by omega, fun h0 => ?_⟩
    obtain ⟨b, o, rfl⟩ := addr_none (hcell 0 (by omega))
    refine ⟨b, o, rfl, fun c hc => ?_⟩
    have hcc := hcell c (by omega)
    rw [add_pl] at hcc
    have hb := b8 (hwf (zs.getD c 0) (by
      rw [List.getD, List.getElem?_eq_getElem (show c < zs.length by omega)]
      exact List.getElem_mem _))
    have e : (((zs.getD c 0).toNat : Nat) : Int) = zs.getD c 0 := by omega
    exact ⟨by show _ = some (Value.int .u8 (((zs.getD c 0).toNat : Nat) : Int)); rw [e]; exact hcc, by show (zs.getD c 0).toNat < 256; omega⟩
end Go.Proofs.YtlbdopcchoklhaaGreat

namespace Go.Proofs.YtlbdopcchoklhaaGreat
open Go.RowKit
set_option linter.unusedVariables false
set_option maxRecDepth 100000
set_option linter.unusedSimpArgs false

theorem w12_any (x : Int) (w : World) : Calls Tryz.prog 39 #[.int .i64 x] w fun e w' => e = .returned (.bool (decide (0 ≤ x ∧ x ≤ 4294967295))) ∧ w = w' := by
  by_cases h1 : 0 ≤ x
  · by_cases h2 : x ≤ 4294967295
    · rw [decide_eq_true (show 0 ≤ x ∧ x ≤ 4294967295 from ⟨h1, h2⟩)]
      go_enter Tryz.func39, Tryz.ntmps39
      go_wp2
      go_ret
      exact ⟨rfl, rfl⟩
    · rw [decide_eq_false (show ¬ (0 ≤ x ∧ x ≤ 4294967295) by omega)]
      go_enter Tryz.func39, Tryz.ntmps39
      go_wp2
      go_ret
      exact ⟨rfl, rfl⟩
  · rw [decide_eq_false (show ¬ (0 ≤ x ∧ x ≤ 4294967295) by omega)]
    go_enter Tryz.func39, Tryz.ntmps39
    go_wp2
    go_ret
    exact ⟨rfl, rfl⟩
set_option maxHeartbeats 1600000 in
theorem rfirst_no (g : Ge) (a s : Int) (w : World) (h : frsB g a s = false) : Calls Tryz.prog 12 #[.agg (geC g), .int .i64 a, .int .i64 s] w (Ans (.tuple #[.int .i64 0, .int .i64 1]) w) := by
  obtain ⟨w1, H, hR⟩ := geR w g
  have HR := Lib.hid hR
  have HM := Lib.hid (rgmay_any g w1)
  rcases frsB_no h with hm | ⟨hm, hc⟩
  · obtain ⟨x0, x1, x2, x3⟩ := hR.x
    rw [hm] at HM
    clear hR h hm
    go_enter Tryz.func12, Tryz.ntmps12
    go_wp2_with (first | ((with_reducible refine wpList_isOp (.box 23 (.tmp 0)) rfl ?_); refine wpList_boxing _ w1 rfl 23 (.tmp 0) rfl (geC g) H rfl (by exact HR.out.sz) (by exact HR.out.al) ?_) | fail)
    refine HM.out.mono ?_
    rintro e w2 ⟨rfl, hc2⟩
    have HC := Lib.hid (HR.out.ch.trans hc2)
    clear hc2
    go_wp2
    go_ret2
    exact ⟨rfl, HC.out⟩
  · rw [hm] at HM
    have HX := Lib.hid hR.x
    clear hR h hm
    go_enter Tryz.func12, Tryz.ntmps12
    obtain ⟨x0, x1, x2, x3⟩ := HX.out
    go_wp2_with (first | ((with_reducible refine wpList_isOp (.box 23 (.tmp 0)) rfl ?_); refine wpList_boxing _ w1 rfl 23 (.tmp 0) rfl (geC g) H rfl (by exact HR.out.sz) (by exact HR.out.al) ?_) | fail)
    refine HM.out.mono ?_
    rintro e w2 ⟨rfl, hc2⟩
    have HC := Lib.hid (HR.out.ch.trans hc2)
    clear x0 x1 x2 x3
    obtain ⟨x0, x1, x2, x3⟩ := HX.out.gr hc2
    clear hc2
    rcases hc with hc | ⟨h0, hc | ⟨h1, hc | ⟨h2, hc⟩⟩⟩
    all_goals (
      go_wp2
      go_ret2
      exact ⟨rfl, HC.out⟩)
theorem frs_wrap {n : Gn} {a s : Nat} (hn : n.Ok) (ha : a ≤ 1) (hs : s < n.S) : wrap64 (wrap64 (4 + wrap64 (2 * n.ge.wal)) + wrap64 (wrap64 (wrap64 ((a : Int) * n.ge.st) + (s : Int)) * wrap64 (n.ge.k + n.ge.m))) = (frsN n a s : Int) := by
  show wrap64 (wrap64 (4 + wrap64 (2 * (n.W : Int))) + wrap64 (wrap64 (wrap64 ((a : Int) * (n.S : Int)) + (s : Int)) * wrap64 ((n.K : Int) + (n.M : Int)))) = _
  have w2 := hn.w2
  have s2 := hn.s2
  have k2 := hn.k2
  have m2 := hn.m2
  have h1 : a * n.S ≤ 32 := Nat.le_trans (Nat.mul_le_mul ha s2) (by omega)
  have h2 : (a * n.S + s) * n.q ≤ 64 * 24 := Nat.mul_le_mul (by omega) (by unfold Gn.q; omega)
  rw [← Int.natCast_mul a n.S, IntWalk.wrap64_in (2 * (n.W : Int)) ⟨by omega, by omega⟩, IntWalk.wrap64_in (4 + 2 * (n.W : Int)) ⟨by omega, by omega⟩, IntWalk.wrap64_in ((a * n.S : Nat) : Int) ⟨by omega, by omega⟩, IntWalk.wrap64_in (((a * n.S : Nat) : Int) + (s : Int)) ⟨by omega, by omega⟩, IntWalk.wrap64_in ((n.K : Int) + (n.M : Int)) ⟨by omega, by omega⟩]
  have e : (((a * n.S : Nat) : Int) + (s : Int)) * ((n.K : Int) + (n.M : Int)) = (((a * n.S + s) * n.q : Nat) : Int) := by
    unfold Gn.q
    rw [Int.natCast_mul (a * n.S + s), Int.natCast_add (a * n.S), Int.natCast_add n.K]
  rw [e, IntWalk.wrap64_in (((a * n.S + s) * n.q : Nat) : Int) ⟨by omega, by omega⟩, IntWalk.wrap64_in (4 + 2 * (n.W : Int) + (((a * n.S + s) * n.q : Nat) : Int)) ⟨by omega, by omega⟩]
  unfold frsN Gn.fs
  omega
set_option maxHeartbeats 1600000 in
theorem rfirst_yes (n : Gn) (a s : Nat) (w : World) (hn : n.Ok) (ha : a ≤ 1) (hs : s < n.S) : Calls Tryz.prog 12 #[.agg (geC n.ge), .int .i64 (a : Int), .int .i64 (s : Int)] w (Ans (.tuple #[.int .i64 (frsN n a s : Int), .int .i64 0]) w) := by
  obtain ⟨w1, H, hR⟩ := geR w n.ge
  have HR := Lib.hid hR
  have HX := Lib.hid hR.x
  have HM := Lib.hid (rgmay_any n.ge w1)
  rw [ok_may hn] at HM
  have HF := Lib.hid (frsN_lt hn ha hs (i := 0) (by have := hn.q1; omega))
  have HT := Lib.hid hn.tot2
  have h1 : (0 : Int) ≤ (a : Int) := Int.natCast_nonneg _
  have h2 : (a : Int) ≤ 1 := by omega
  have h3 : (0 : Int) ≤ (s : Int) := Int.natCast_nonneg _
  have h4 : (s : Int) < n.ge.st := by show (s : Int) < (n.S : Int); omega
  obtain ⟨x0, x1, x2, x3⟩ := HX.out
  have HN := Lib.hid hn
  have HA := Lib.hid (And.intro ha hs)
  clear hR ha hs hn
  go_enter Tryz.func12, Tryz.ntmps12
  go_wp2_with (first | ((with_reducible refine wpList_isOp (.box 23 (.tmp 0)) rfl ?_); refine wpList_boxing _ w1 rfl 23 (.tmp 0) rfl (geC n.ge) H rfl (by exact HR.out.sz) (by exact HR.out.al) ?_) | fail)
  refine HM.out.mono ?_
  rintro e w2 ⟨rfl, hc2⟩
  have HC := Lib.hid (HR.out.ch.trans hc2)
  clear x0 x1 x2 x3
  obtain ⟨x0, x1, x2, x3⟩ := HX.out.gr hc2
  clear hc2
  go_wp2
  go_ret2
  exact ⟨by show Ending.returned (.tuple #[.int .i64 (wrap64 (wrap64 (4 + wrap64 (2 * n.ge.wal)) + wrap64 (wrap64 (wrap64 ((a : Int) * n.ge.st) + (s : Int)) * wrap64 (n.ge.k + n.ge.m)))), .int .i64 0]) = _; rw [frs_wrap HN.out HA.out.1 HA.out.2], HC.out⟩
end Go.Proofs.YtlbdopcchoklhaaGreat

namespace Go.Proofs.YtlbdopcchoklhaaGreat

theorem pw_leF (k : Nat) (h : k ≤ 16) : pwF k ≤ 65536 := by
  have := Nat.pow_le_pow_right (show 0 < 2 by omega) h
  unfold pwF
  omega
theorem pw_succF (k : Nat) : pwF (k + 1) = pwF k * 2 := Nat.pow_succ 2 k
theorem pw_pos (k : Nat) : 0 < pwF k := Nat.pow_pos (by omega)
theorem half (a j : Nat) : shF a (j + 1) = shF a j / 2 := by unfold shF; rw [Nat.pow_succ, Nat.div_div_eq_div_mul]
theorem sh_leF (a j : Nat) : shF a j ≤ a := Nat.div_le_self _ _
theorem bt_lt (a k : Nat) : bt a k < 2 := Nat.mod_lt _ (by omega)
theorem bt_ne (a b k : Nat) : (bt a k = bt b k) ↔ (a ^^^ b).testBit k = false := by
  unfold bt
  rw [Nat.testBit_xor, Nat.testBit_eq_decide_div_mod_eq, Nat.testBit_eq_decide_div_mod_eq]
  have h1 := Nat.mod_two_eq_zero_or_one (a / 2 ^ k)
  have h2 := Nat.mod_two_eq_zero_or_one (b / 2 ^ k)
  rcases h1 with h1 | h1 <;> rcases h2 with h2 | h2 <;> simp [h1, h2]
theorem xm_same (a b k : Nat) (h : bt a k = bt b k) : xm a b (k + 1) = xm a b k := by
  unfold xm
  have := (bt_ne a b k).1 h
  rw [Nat.testBit_eq_decide_div_mod_eq] at this
  have h2 := Nat.mod_two_eq_zero_or_one ((a ^^^ b) / 2 ^ k)
  rw [Nat.mod_pow_succ]
  rcases h2 with h2 | h2
  · rw [h2]; rfl
  · rw [h2] at this; simp at this
theorem xm_other (a b k : Nat) (h : ¬ bt a k = bt b k) : xm a b (k + 1) = xm a b k + pwF k := by
  unfold xm pwF
  have h2 := Nat.mod_two_eq_zero_or_one ((a ^^^ b) / 2 ^ k)
  rw [Nat.mod_pow_succ]
  rcases h2 with h2 | h2
  · exact absurd ((bt_ne a b k).2 (by rw [Nat.testBit_eq_decide_div_mod_eq, h2]; rfl)) h
  · rw [h2, Nat.mul_one]
theorem xm_lt (a b k : Nat) : xm a b k < pwF k := Nat.mod_lt _ (Nat.pow_pos (by omega))
theorem xm_all (a b : Nat) (ha : a < 65536) (hb : b < 65536) : xm a b 16 = xr a b := Nat.mod_eq_of_lt (Nat.xor_lt_two_pow (by omega) (by omega))
theorem xr_lt {a b : Nat} (ha : a < 65536) (hb : b < 65536) : xr a b < 65536 := Nat.xor_lt_two_pow (n := 16) ha hb

theorem prod_lt (a k : Nat) (ha : a < 256) (h : k < 8) : a * pwF k < 65536 := by
  have := pw7F k h
  have : a * pwF k ≤ 255 * 128 := Nat.mul_le_mul (by omega) this
  omega
theorem m1_lt (a b k : Nat) (ha : a < 256) (h : k ≤ 8) : m1 a b k < 65536 := by
  induction k with
  | zero => show 0 < 65536; omega
  | succ k ih =>
    have := ih (by omega)
    unfold m1
    split
    · exact xr_lt this (prod_lt a k ha (by omega))
    · exact this
theorem red_lt (n k : Nat) (hn : n < 65536) (h : k ≤ 15) : red n k < 65536 := by
  unfold red
  split
  · refine xr_lt hn ?_
    have := pw7F (k - 8) (by omega)
    have : 285 * pwF (k - 8) ≤ 285 * 128 := Nat.mul_le_mul (by omega) this
    omega
  · exact hn
theorem m2_lt (n j : Nat) (hn : n < 65536) : m2 n j < 65536 := by
  induction j with
  | zero => exact hn
  | succ j ih => exact red_lt _ _ ih (by omega)

theorem bt_xr (a b k : Nat) : bt (xr a b) k = (bt a k + bt b k) % 2 := by
  have e := bt_ne a b k
  have h1 := bt_lt a k
  have h2 := bt_lt b k
  have h3 := bt_lt (xr a b) k
  rw [Nat.testBit_eq_decide_div_mod_eq] at e
  have e' : (bt a k = bt b k) ↔ ¬ bt (xr a b) k = 1 := by
    rw [e]; simp [bt, xr]
  omega
theorem red_xr (a b k : Nat) : red (xr a b) k = xr (red a k) (red b k) := by
  unfold red
  have e := bt_xr a b k
  have h1 := bt_lt a k
  have h2 := bt_lt b k
  generalize 285 * pwF (k - 8) = p
  by_cases ha : bt a k = 1 <;> by_cases hb : bt b k = 1
  · rw [if_neg (by omega), if_pos ha, if_pos hb]
    unfold xr
    rw [show a ^^^ p ^^^ (b ^^^ p) = a ^^^ b ^^^ (p ^^^ p) by ac_rfl, Nat.xor_self, Nat.xor_zero]
  · rw [if_pos (by omega), if_pos ha, if_neg hb]
    unfold xr; ac_rfl
  · rw [if_pos (by omega), if_neg ha, if_pos hb]
    unfold xr; ac_rfl
  · rw [if_neg (by omega), if_neg ha, if_neg hb]
theorem m2_xr (a b j : Nat) : m2 (xr a b) j = xr (m2 a j) (m2 b j) := by
  induction j with
  | zero => rfl
  | succ j ih => simp only [m2, ih, red_xr]
theorem m2_one' : (List.range 256).all (fun a => (List.range 8).all fun k => m2 (a * pwF k) 8 == Gf.itd k a) = true := by decide +kernel
theorem m2_one {a k : Nat} (ha : a < 256) (hk : k < 8) : m2 (a * pwF k) 8 = Gf.itd k a := by
  have := List.all_eq_true.1 (List.all_eq_true.1 m2_one' a (List.mem_range.2 ha)) k (List.mem_range.2 hk)
  simpa using this
theorem pw_ex' : (List.range 8).all (fun k => Gf.ex k == pwF k) = true := by decide +kernel
theorem pw_ex {k : Nat} (hk : k < 8) : Gf.ex k = pwF k := by simpa using List.all_eq_true.1 pw_ex' k (List.mem_range.2 hk)
theorem mul_pw {a k : Nat} (ha : a < 256) (hk : k < 8) : Gf.mul a (pwF k) = Gf.itd k a := by
  rw [Gf.mul_comm, Gf.mul_itd ha (pw_pos k), ← pw_ex hk, Gf.lg_ex, Nat.mod_eq_of_lt (by omega)]
theorem m1_part (a b k : Nat) (ha : a < 256) (hk : k ≤ 8) : m2 (m1 a b k) 8 = Gf.mul a (b % pwF k) := by
  induction k with
  | zero =>
    show m2 0 8 = Gf.mul a (b % 1)
    rw [Nat.mod_one, Gf.mul_zero]; decide +kernel
  | succ k ih =>
    have ih := ih (by omega)
    have hm : b % pwF k < pwF k := Nat.mod_lt _ (pw_pos k)
    have h7 := pw7F k (by omega)
    have e : b % pwF (k + 1) = b % pwF k + pwF k * bt b k := by unfold pwF bt; rw [Nat.mod_pow_succ]
    have h2 := bt_lt b k
    unfold m1
    by_cases h : bt b k = 1
    · rw [if_pos h, m2_xr, ih, m2_one ha (by omega), ← mul_pw ha (by omega)]
      unfold xr
      rw [← Gf.mul_xor ha (by omega) (by omega), low_xor (by omega) hm, e, h, Nat.mul_one]
    · rw [if_neg h, ih, e, show bt b k = 0 by omega, Nat.mul_zero, Nat.add_zero]
theorem rmul_eq {a b : Nat} (ha : a < 256) (hb : b < 256) : rmul a b = Gf.mul a b := by
  unfold rmul
  rw [m1_part a b 8 ha (by omega), Nat.mod_eq_of_lt (by show b < 256; omega)]
end Go.Proofs.YtlbdopcchoklhaaGreat

namespace Go.Proofs.YtlbdopcchoklhaaGreat
open Go.RowKit

set_option maxHeartbeats 400000 in
theorem power_any (k : Int) (h0 : 0 ≤ k) (h1 : k ≤ 16) (w : World) :
    Calls Tryz.prog 131 #[.int .i64 k] w fun e w' => e = .returned (.int .i64 (pwF k.toNat : Int)) ∧ w = w' := by
  obtain ⟨k, rfl⟩ := Int.eq_ofNat_of_zero_le h0
  rw [Int.toNat_natCast]
  go_enter Tryz.func131, Tryz.ntmps131
  go_wp2
  go_loop [3, 4] (fun n i => ∃ j : Nat, j ≤ k ∧ i = .int .i64 j ∧ n = .int .i64 (pwF j : Int)) (fun _ i => k - (intOf i).toNat)
  case atStart => exact ⟨0, Nat.zero_le _, rfl, rfl⟩
  case round =>
    obtain ⟨j, hj, rfl, rfl⟩ := hrel
    have hp := pw_leF j (by omega)
    have HS := Lib.hid (pw_succF j)
    by_cases hlt : j < k
    · go_wp2
      go_round
      case rel => exact ⟨j + 1, by omega, by go_num, by rw [HS.out]; go_num⟩
      case measure => simp [intOf]; omega
    · have HE := Lib.hid (show k = j by omega)
      go_wp2
      go_ret
      exact ⟨ret_int (by rw [HE.out]), rfl⟩

set_option maxHeartbeats 400000 in
theorem bit_any (a k : Int) (a0 : 0 ≤ a) (a1 : a < 65536) (h0 : 0 ≤ k) (h1 : k ≤ 16) (w : World) :
    Calls Tryz.prog 129 #[.int .i64 a, .int .i64 k] w fun e w' => e = .returned (.int .i64 (bt a.toNat k.toNat : Int)) ∧ w = w' := by
  obtain ⟨k, rfl⟩ := Int.eq_ofNat_of_zero_le h0
  obtain ⟨a, rfl⟩ := Int.eq_ofNat_of_zero_le a0
  rw [Int.toNat_natCast, Int.toNat_natCast]
  go_enter Tryz.func129, Tryz.ntmps129
  go_wp2
  go_loop [0, 5] (fun n i => ∃ j : Nat, j ≤ k ∧ i = .int .i64 j ∧ n = .int .i64 (shF a j : Int)) (fun _ i => k - (intOf i).toNat)
  case atStart => exact ⟨0, Nat.zero_le _, rfl, by simp [shF]⟩
  case round =>
    obtain ⟨j, hj, rfl, rfl⟩ := hrel
    have hp := sh_leF a j
    have HS := Lib.hid (half a j)
    by_cases hlt : j < k
    · go_wp2
      go_round
      case rel => exact ⟨j + 1, by omega, by go_num, by rw [HS.out]; go_num⟩
      case measure => simp [intOf]; omega
    · have HE := Lib.hid (show k = j by omega)
      have HB := Lib.hid (show bt a j = shF a j % 2 from rfl)
      go_wp2
      go_ret
      exact ⟨ret_int (by rw [HE.out, HB.out]; omega), rfl⟩

set_option maxHeartbeats 800000 in
set_option maxRecDepth 100000 in
theorem sum_anyF (a b : Int) (a0 : 0 ≤ a) (a1 : a < 65536) (b0 : 0 ≤ b) (b1 : b < 65536) (w : World) :
    Calls Tryz.prog 130 #[.int .i64 a, .int .i64 b] w fun e w' => e = .returned (.int .i64 (xr a.toNat b.toNat : Int)) ∧ w = w' := by
  obtain ⟨a, rfl⟩ := Int.eq_ofNat_of_zero_le a0
  obtain ⟨b, rfl⟩ := Int.eq_ofNat_of_zero_le b0
  rw [Int.toNat_natCast, Int.toNat_natCast]
  have A := Lib.hid (show (0 : Int) ≤ (a : Int) ∧ (a : Int) < 65536 from ⟨a0, a1⟩)
  have B := Lib.hid (show (0 : Int) ≤ (b : Int) ∧ (b : Int) < 65536 from ⟨b0, b1⟩)
  clear a0 a1 b0 b1
  go_enter Tryz.func130, Tryz.ntmps130
  go_wp2
  go_loop [5, 6] (fun n i => ∃ j : Nat, j ≤ 16 ∧ i = .int .i64 j ∧ n = .int .i64 (xm a b j : Int)) (fun _ i => 16 - (intOf i).toNat)
  case atStart => exact ⟨0, Nat.zero_le _, rfl, by simp [xm, Nat.mod_one]⟩
  case round =>
    obtain ⟨j, hj, rfl, rfl⟩ := hrel
    have hp := pw_leF j (by omega)
    have hm := xm_lt a b j
    have HA := bt_lt a j
    have HB := bt_lt b j
    by_cases hlt : j < 16
    · by_cases hbit : bt a j = bt b j
      · have HS := Lib.hid (xm_same a b j hbit)
        have hbb : (((bt a j : Nat) : Int) != ((bt b j : Nat) : Int)) = false := by simp [hbit]
        clear hbit
        go_wp2_with (go_at_call 129; refine (bit_any _ _ (by omega) (by have := A.out; have := B.out; omega) (by omega) (by omega) _).mono ?_; rintro e w' ⟨rfl, rfl⟩; simp only [Int.toNat_natCast])
        go_round
        case rel => exact ⟨j + 1, by omega, by go_num, by rw [HS.out]⟩
        case measure => simp [intOf]; omega
      · have HS := Lib.hid (xm_other a b j hbit)
        have hbb : (((bt a j : Nat) : Int) != ((bt b j : Nat) : Int)) = true := by simp; omega
        clear hbit
        go_wp2_with (first | (go_at_call 129; refine (bit_any _ _ (by omega) (by have := A.out; have := B.out; omega) (by omega) (by omega) _).mono ?_; rintro e w' ⟨rfl, rfl⟩; simp only [Int.toNat_natCast]) | (go_at_call 131; refine (power_any _ (by omega) (by omega) _).mono ?_; rintro e w' ⟨rfl, rfl⟩; simp only [Int.toNat_natCast]))
        go_round
        case rel => exact ⟨j + 1, by omega, by go_num, by rw [HS.out]; go_num⟩
        case measure => simp [intOf]; omega
    · have HE := Lib.hid (show j = 16 by omega)
      have HX := Lib.hid (xm_all a b (by have := A.out; omega) (by have := B.out; omega))
      go_wp2
      go_ret
      exact ⟨ret_int (by rw [HE.out, HX.out]), rfl⟩

set_option maxHeartbeats 400000 in
theorem radd_any (a b : Int) (a0 : 0 ≤ a) (a1 : a < 256) (b0 : 0 ≤ b) (b1 : b < 256) (w : World) :
    Calls Tryz.prog 112 #[.int .u8 a, .int .u8 b] w fun e w' => e = .returned (.int .u8 (xr a.toNat b.toNat : Int)) ∧ w = w' := by
  have hx : xr a.toNat b.toNat < 256 := Gf.xor_lt (by omega) (by omega)
  go_enter Tryz.func112, Tryz.ntmps112
  go_wp2_with (go_at_call 130; refine (sum_anyF _ _ (by omega) (by omega) (by omega) (by omega) _).mono ?_; rintro e w' ⟨rfl, rfl⟩)
  go_ret
  exact ⟨rfl, rfl⟩

theorem toNat_prod (a p : Nat) : ((a : Int) * (p : Int)).toNat = a * p := by rw [← Int.natCast_mul, Int.toNat_natCast]
theorem toNat_285 (p : Nat) : ((285 : Int) * (p : Int)).toNat = 285 * p := by omega
theorem m1_yes (a b k : Nat) (h : bt b k = 1) : m1 a b (k + 1) = xr (m1 a b k) (a * pwF k) := by
  show (if bt b k = 1 then _ else _) = _
  rw [if_pos h]
theorem m1_no (a b k : Nat) (h : ¬ bt b k = 1) : m1 a b (k + 1) = m1 a b k := by
  show (if bt b k = 1 then _ else _) = _
  rw [if_neg h]
theorem m2_yes (n j : Nat) (h : bt (m2 n j) (15 - j) = 1) : m2 n (j + 1) = xr (m2 n j) (285 * pwF (15 - j - 8)) := by
  show (if bt (m2 n j) (15 - j) = 1 then _ else _) = _
  rw [if_pos h]
theorem m2_no (n j : Nat) (h : ¬ bt (m2 n j) (15 - j) = 1) : m2 n (j + 1) = m2 n j := by
  show (if bt (m2 n j) (15 - j) = 1 then _ else _) = _
  rw [if_neg h]

set_option maxHeartbeats 1600000 in
set_option maxRecDepth 100000 in
theorem rmul_any (a b : Int) (a0 : 0 ≤ a) (a1 : a < 256) (b0 : 0 ≤ b) (b1 : b < 256) (w : World) :
    Calls Tryz.prog 111 #[.int .u8 a, .int .u8 b] w fun e w' => e = .returned (.int .u8 (Gf.mul a.toNat b.toNat : Int)) ∧ w = w' := by
  obtain ⟨a, rfl⟩ := Int.eq_ofNat_of_zero_le a0
  obtain ⟨b, rfl⟩ := Int.eq_ofNat_of_zero_le b0
  rw [Int.toNat_natCast, Int.toNat_natCast]
  go_enter Tryz.func111, Tryz.ntmps111
  go_wp2
  go_loop [5, 6] (fun n i => ∃ j : Nat, j ≤ 8 ∧ i = .int .i64 j ∧ n = .int .i64 (m1 a b j : Int)) (fun _ i => 8 - (intOf i).toNat)
  case atStart => exact ⟨0, Nat.zero_le _, rfl, rfl⟩
  case round =>
    obtain ⟨j, hj, rfl, rfl⟩ := hrel
    have hm := m1_lt a b j (by omega) (by omega)
    by_cases hlt : j < 8
    · have hp := pw7F j hlt
      by_cases hbit : bt b j = 1
      · have HS := Lib.hid (m1_yes a b j hbit)
        have hq : a * pwF j ≤ 255 * 128 := Nat.mul_le_mul (by omega) hp
        have hbb : (((bt b j : Nat) : Int) == 1) = true := by simp [hbit]
        have hq1 : (0 : Int) ≤ (a : Int) * (pwF j : Int) := Int.mul_nonneg (by omega) (by omega)
        have hq2 : (a : Int) * (pwF j : Int) ≤ 32640 := by rw [← Int.natCast_mul]; omega
        clear hbit hq
        go_wp2_with (first | (go_at_call 129; refine (bit_any _ _ (by omega) (by omega) (by omega) (by omega) _).mono ?_; rintro e w' ⟨rfl, rfl⟩; simp only [Int.toNat_natCast]) | (go_at_call 131; refine (power_any _ (by omega) (by omega) _).mono ?_; rintro e w' ⟨rfl, rfl⟩; simp only [Int.toNat_natCast]) | (go_at_call 130; refine (sum_anyF _ _ (by omega) (by omega) (by omega) (by omega) _).mono ?_; rintro e w' ⟨rfl, rfl⟩; simp only [Int.toNat_natCast, toNat_prod]))
        go_round
        case rel => exact ⟨j + 1, by omega, by go_num, by rw [HS.out]⟩
        case measure => simp [intOf]; omega
      · have HS := Lib.hid (m1_no a b j hbit)
        have hbb : (((bt b j : Nat) : Int) == 1) = false := by rw [beq_eq_false_iff_ne]; omega
        clear hbit
        go_wp2_with (go_at_call 129; refine (bit_any _ _ (by omega) (by omega) (by omega) (by omega) _).mono ?_; rintro e w' ⟨rfl, rfl⟩; simp only [Int.toNat_natCast])
        go_round
        case rel => exact ⟨j + 1, by omega, by go_num, by rw [HS.out]⟩
        case measure => simp [intOf]; omega
    · have HE := Lib.hid (show j = 8 by omega)
      have HR := Lib.hid (show m2 (m1 a b 8) 8 = Gf.mul a b from rmul_eq (by omega) (by omega))
      go_wp2
      clear hm
      go_loop [5, 7] (fun n i => ∃ q : Nat, q ≤ 8 ∧ i = .int .i64 (15 - q : Int) ∧ n = .int .i64 (m2 (m1 a b 8) q : Int)) (fun _ i => (intOf i).toNat)
      case atStart => exact ⟨0, Nat.zero_le _, rfl, by rw [HE.out]; rfl⟩
      case round =>
        obtain ⟨q, hq, rfl, rfl⟩ := hrel
        have hm := m2_lt (m1 a b 8) q (m1_lt a b 8 (by omega) (by omega))
        by_cases hlq : q < 8
        · have e15 : ((15 : Int) - (q : Int)).toNat = 15 - q := by omega
          have e7 : ((15 : Int) - (q : Int) - 8).toNat = 15 - q - 8 := by omega
          have E15 := Lib.hid e15
          have E7 := Lib.hid e7
          clear e15 e7
          have hp := pw7F (15 - q - 8) (by omega)
          have hlt2 := bt_lt (m2 (m1 a b 8) q) (15 - q)
          by_cases hbit : bt (m2 (m1 a b 8) q) (15 - q) = 1
          · have HS := Lib.hid (m2_yes (m1 a b 8) q hbit)
            have hbb : (((bt (m2 (m1 a b 8) q) (15 - q) : Nat) : Int) == 1) = true := by simp [hbit]
            clear hbit
            go_wp2_with (first | (go_at_call 129; refine (bit_any _ _ (by omega) (by omega) (by omega) (by omega) _).mono ?_; rintro e w' ⟨rfl, rfl⟩; simp only [Int.toNat_natCast, E15.out]) | (go_at_call 131; refine (power_any _ (by omega) (by omega) _).mono ?_; rintro e w' ⟨rfl, rfl⟩; simp only [E7.out]) | (go_at_call 130; refine (sum_anyF _ _ (by omega) (by omega) (by omega) (by omega) _).mono ?_; rintro e w' ⟨rfl, rfl⟩; simp only [Int.toNat_natCast, toNat_285]))
            go_round
            case rel => exact ⟨q + 1, by omega, int_eq (by omega), by rw [HS.out]⟩
            case measure => simp [intOf]; omega
          · have HS := Lib.hid (m2_no (m1 a b 8) q hbit)
            have hbb : (((bt (m2 (m1 a b 8) q) (15 - q) : Nat) : Int) == 1) = false := by rw [beq_eq_false_iff_ne]; omega
            clear hbit
            go_wp2_with (go_at_call 129; refine (bit_any _ _ (by omega) (by omega) (by omega) (by omega) _).mono ?_; rintro e w' ⟨rfl, rfl⟩; simp only [Int.toNat_natCast, E15.out])
            go_round
            case rel => exact ⟨q + 1, by omega, int_eq (by omega), by rw [HS.out]⟩
            case measure => simp [intOf]; omega
        · have HQ := Lib.hid (show q = 8 by omega)
          have hml := Gf.mul_lt a b
          have hb : m2 (m1 a b 8) q < 256 := by rw [HQ.out, HR.out]; exact hml
          clear hm hml
          go_wp2
          go_ret
          exact ⟨ret_int (by rw [HQ.out, HR.out]), rfl⟩
end Go.Proofs.YtlbdopcchoklhaaGreat

namespace Go.Proofs.YtlbdopcchoklhaaGreat
open Go.RowKit

theorem first_quo {a b c : Nat} (hb : b < 256) (hb0 : 0 < b) (hc : c < 256) (h : Gf.mul c b = a) : c = Gf.quo a b := Gf.mul_only hc hb hb0 h
set_option maxHeartbeats 800000 in
set_option maxRecDepth 100000 in
theorem rdiv_any (a b : Int) (a0 : 0 ≤ a) (a1 : a < 256) (b0 : 0 ≤ b) (b1 : b < 256) (w : World) :
    Calls Tryz.prog 119 #[.int .u8 a, .int .u8 b] w fun e w' => e = .returned (.tuple #[.int .u8 (qv a.toNat b.toNat), .int .i64 (ze b.toNat)]) ∧ w = w' := by
  obtain ⟨a, rfl⟩ := Int.eq_ofNat_of_zero_le a0
  obtain ⟨b, rfl⟩ := Int.eq_ofNat_of_zero_le b0
  rw [Int.toNat_natCast, Int.toNat_natCast]
  by_cases hb : b = 0
  · subst hb
    go_enter Tryz.func119, Tryz.ntmps119
    go_wp2
    go_ret2
    exact ⟨rfl, rfl⟩
  have hb' : ((b : Int) == 0) = false := by rw [beq_eq_false_iff_ne]; omega
  have HB := Lib.hid hb
  have hbp : 0 < b := by omega
  clear hb
  go_enter Tryz.func119, Tryz.ntmps119
  go_wp2
  go_loop [6] (fun i => ∃ c : Nat, c ≤ 256 ∧ i = .int .i64 c ∧ Hid (∀ x, x < c → ¬ Gf.mul x b = a)) (fun i => 256 - (intOf i).toNat)
  case atStart => exact ⟨0, Nat.zero_le _, rfl, fun x hx => absurd hx (Nat.not_lt_zero x)⟩
  case round =>
    obtain ⟨c, hc, rfl, HN⟩ := hrel
    by_cases hlt : c < 256
    · by_cases he : Gf.mul c b = a
      · have HQ := Lib.hid (first_quo (by omega) hbp hlt he)
        have he' : (((Gf.mul c b : Nat) : Int) == (a : Int)) = true := by rw [he]; simp
        clear he
        go_wp2_with (go_at_call 111; refine (rmul_any _ _ (by omega) (by omega) (by omega) (by omega) _).mono ?_; rintro e w' ⟨rfl, rfl⟩; simp only [Int.toNat_natCast])
        go_ret2
        refine ⟨ret_pairF ?_ (ze_pos HB.out).symm, rfl⟩
        rw [qv_pos HB.out, ← HQ.out]
      · have HS : Hid (∀ x, x < c + 1 → ¬ Gf.mul x b = a) := fun x hx => by
          by_cases e : x = c
          · rw [e]; exact he
          · exact HN x (by omega)
        have he' : (((Gf.mul c b : Nat) : Int) == (a : Int)) = false := by rw [beq_eq_false_iff_ne]; omega
        clear he
        go_wp2_with (go_at_call 111; refine (rmul_any _ _ (by omega) (by omega) (by omega) (by omega) _).mono ?_; rintro e w' ⟨rfl, rfl⟩; simp only [Int.toNat_natCast])
        go_round
        case rel => exact ⟨c + 1, by omega, by go_num, HS⟩
        case measure => simp [intOf]; omega
    · exact absurd (Gf.mul_quo (by omega) (by omega) hbp) (HN.out (Gf.quo a b) (by have := Gf.quo_lt a b; omega))

end Go.Proofs.YtlbdopcchoklhaaGreat

namespace Go.Proofs.YtlbdopcchoklhaaGreat
open Go.RowKit
set_option linter.unusedVariables false
set_option maxRecDepth 100000

theorem Far.owns {lo base : Nat} {w : World} {e : TypeId} {v : Value} {n b : Nat} {xs : List Value} (h : w.ownsRow base e 1 v n xs) (hv : v.ownBlock = some b) (hl : lo ≤ b) : Far lo w b := ⟨hl, fun _ => by
  rcases h.2 with ⟨rfl, _⟩ | ⟨g, cap, cur, rfl, _, hgg, _⟩
  · cases hv
  · have e' : g = b := by simpa [Value.ownBlock] using hv
    rw [← e']
    exact ⟨cur, _, hgg⟩⟩
theorem Bld.moreCh {base : Nat} {w0 w w' : World} {v : Value} {k : Nat} {xs : List Value} (c : Array Value) (t : TypeId) (hc : Ch (fun _ => False) w0 w) (h1 : w.ownsRow base /-t-/24 1 v k xs) (hb : w0.heap.size ≤ base) (hg : (w.alloc (.cells c t)).grownBy w' v.ownBlock) : Ch (fun _ => False) w0 w' :=
  (hc.alloc c t).grown hg (fun i hi => Or.inr (Nat.le_trans hb (World.ownsRow.lt h1 i hi).1))


end Go.Proofs.YtlbdopcchoklhaaGreat

namespace Go.Proofs.YtlbdopcchoklhaaGreat
open Go.RowKit
set_option linter.unusedVariables false
set_option maxRecDepth 100000

set_option maxHeartbeats 1600000 in
set_option maxRecDepth 100000 in
theorem rmay_anyF (v : Value) (n : Nat) (L : Nat → Nat) (Z : Nat → Nat → Nat) (w : World) (h : MatV w v n L Z) :
    Calls Tryz.prog 69 #[v] w (Qu (.bool (mayBF n L)) w) := by
  by_cases hn : 0 < n
  · obtain ⟨b, o, C, rfl, hb, hr⟩ := h.some hn
    clear h
    by_cases h64 : n ≤ 64
    · obtain ⟨A0, D0, c0, l0, _⟩ := hr 0 hn
      rw [Nat.add_zero] at c0
      have HR := Lib.hid hr
      clear hr
      have i0 : (0 : Int) < (n : Int) := by omega
      have t1 : decide ((n : Int) < 1) = false := by simp; omega
      have t2 : decide ((64 : Int) < (n : Int)) = false := by simp; omega
      have C0 := Lib.hid c0
      clear c0
      go_enter Tryz.func69, Tryz.ntmps69
      go_wp2
      go_loopw [3] (fun i wr => ∃ k : Nat, k ≤ n ∧ i = .int .i64 k ∧ (∃ d, wr = w.drewN d) ∧ Hid (∀ r, r < k → 1 ≤ L r ∧ L r ≤ 4096 ∧ L r = L 0)) (fun i _ => n - (intOf i).toNat)
      case atStart => exact ⟨0, Nat.zero_le _, rfl, ⟨0, rfl⟩, fun r hr => absurd hr (Nat.not_lt_zero r)⟩
      case round =>
        obtain ⟨k, hk, rfl, ⟨d, rfl⟩, HK⟩ := hrel
        by_cases hlt : k < n
        · obtain ⟨Ak, Dk, ck, lk, _⟩ := HR.out k hlt
          have c0 := C0.out
          have i1 : (0 : Int) ≤ (k : Int) := Int.natCast_nonneg _
          have i2 : (k : Int) < (n : Int) := by omega
          by_cases g1 : 1 ≤ L k
          · have t3 : decide ((L k : Int) < 1) = false := by simp; omega
            by_cases g2 : L k ≤ 4096
            · have t4 : decide ((4096 : Int) < (L k : Int)) = false := by simp; omega
              by_cases he : L k = L 0
              · have hb' : ((L k : Int) != (L 0 : Int)) = false := by simp [he]
                have HS : Hid (∀ r, r < k + 1 → 1 ≤ L r ∧ L r ≤ 4096 ∧ L r = L 0) := fun r hr => by
                  by_cases e : r = k
                  · rw [e]; exact ⟨g1, g2, he⟩
                  · exact HK r (by omega)
                clear he
                go_wp2
                go_quiet (fail)
                go_wp2
                go_roundw
                case rel => exact ⟨k + 1, by omega, by go_num, ⟨_, rfl⟩, HS⟩
                case measure => simp [intOf]; omega
              · have hb' : ((L k : Int) != (L 0 : Int)) = true := by simp; omega
                have HS := Lib.hid (mayB_no (n := n) (L := L) (fun q => he (q.2.2.2.2 k hlt)))
                clear he
                go_wp2
                go_quiet (fail)
                go_wp2
                go_ret
                exact ⟨ret_bool HS.out.symm, _, World.drewN_drewN _ _ _⟩
            · have t4 : decide ((4096 : Int) < (L k : Int)) = true := by simp; omega
              have HS := Lib.hid (mayB_no (n := n) (L := L) (fun q => g2 (by have := q.2.2.2.2 k hlt; omega)))
              go_wp2
              go_quiet (fail)
              go_wp2
              go_ret
              exact ⟨ret_bool HS.out.symm, _, World.drewN_drewN _ _ _⟩
          · have t3 : decide ((L k : Int) < 1) = true := by simp; omega
            have HS := Lib.hid (mayB_no (n := n) (L := L) (fun q => g1 (by have := q.2.2.2.2 k hlt; omega)))
            go_wp2
            go_quiet (fail)
            go_wp2
            go_ret
            exact ⟨ret_bool HS.out.symm, _, World.drewN_drewN _ _ _⟩
        · have HE := Lib.hid (show k = n by omega)
          go_wp2
          go_ret
          have hk0 := HK.out 0 (by have := HE.out; omega)
          refine ⟨ret_bool (mayB_mk ⟨by omega, h64, hk0.1, hk0.2.1, fun r hr => (HK.out r (by have := HE.out; omega)).2.2⟩).symm, _, rfl⟩
    · have t1 : decide ((n : Int) < 1) = false := by simp; omega
      have t2 : decide ((64 : Int) < (n : Int)) = true := by simp; omega
      have HS := Lib.hid (mayB_no (n := n) (L := L) (fun q => h64 q.2.1))
      go_enter Tryz.func69, Tryz.ntmps69
      go_wp2
      go_ret
      exact ⟨ret_bool HS.out.symm, 0, rfl⟩
  · obtain rfl : n = 0 := by omega
    obtain ⟨A, C, rfl⟩ := h.none
    have HS := Lib.hid (mayB_no (n := 0) (L := L) (fun q => by omega))
    go_enter Tryz.func69, Tryz.ntmps69
    go_wp2
    go_ret
    exact ⟨ret_bool HS.out.symm, 0, rfl⟩
end Go.Proofs.YtlbdopcchoklhaaGreat

namespace Go.Proofs.YtlbdopcchoklhaaGreat
open Go.RowKit
set_option linter.unusedVariables false
set_option maxRecDepth 100000

theorem made_one (k n : Nat) (i : Nat) (hi : i < ((madeCells #[Value.int .u8 0] n).setIfInBounds k (.int .u8 1)).size) : ((madeCells #[Value.int .u8 0] n).setIfInBounds k (.int .u8 1))[i]? = some (.int .u8 (oneZ k i : Int)) := by
  have hn : i < n := by simpa [size_madeCells] using hi
  rw [Array.getElem?_setIfInBounds]
  unfold oneZ
  by_cases e : k = i
  · subst e; simp [size_madeCells, hn]
  · rw [if_neg e, if_neg e]
    simp [madeCells, hn, Nat.mod_one]
set_option maxHeartbeats 1600000 in
theorem rone_new (n : Int) (n1 : 1 ≤ n) (n2 : n ≤ 64) (w : World) : Calls Tryz.prog 109 #[.int .i64 n] w (FreshPost n.toNat n.toNat oneZ w) := by
  obtain ⟨n, rfl⟩ := Int.eq_ofNat_of_zero_le (show 0 ≤ n by omega)
  rw [Int.toNat_natCast]
  have t1 : decide ((n : Int) < 1) = false := by simp; omega
  have t2 : decide ((64 : Int) < (n : Int)) = false := by simp; omega
  have hmk2 := run_make_row' (P := Tryz.prog) 24 5 (.int .u8 0) 1 Tryz.underlying24 Tryz.info5 rfl .i64 .i64 n (by omega) (by omega)
  obtain ⟨i0, hi, hz0, hz1, hz2⟩ := info_parts Tryz.info24
  go_enter Tryz.func109, Tryz.ntmps109
  go_wp2
  go_loopw [4, 5, 6] (fun v i _ wr => ∃ k : Nat, k ≤ n ∧ i = .int .i64 k ∧ Ch (fun _ => False) w wr ∧ Bld w.heap.size wr v k (fun _ => n) oneZ) (fun _ i _ _ => n - (intOf i).toNat)
  case atStart => exact ⟨0, Nat.zero_le _, rfl, Ch.refl _ _, Bld.nil _ _ _ _⟩
  case round =>
    obtain ⟨k, hk, rfl, hch, hbld⟩ := hrel
    by_cases hlt : k < n
    · obtain ⟨xs, ho, hrows⟩ := hbld
      have c0 := (World.rowIs_made wr (.int .u8 0) n /-t-/5).cell hlt
      have f0 := (World.rowIs_made wr (.int .u8 0) n /-t-/5).frozen k
      obtain ⟨W, hW⟩ : ∃ W, W = wr.alloc (.cells ((madeCells #[Value.int .u8 0] n).setIfInBounds k (.int .u8 1)) /-t-/5) := ⟨_, rfl⟩
      have hWr : W.rowIs wr.heap.size /-t-/5 n (fun c => .int .u8 (oneZ k c : Int)) := by
        have := World.rowIs_alloc wr ((madeCells #[Value.int .u8 0] n).setIfInBounds k (.int .u8 1)) /-t-/5 (fun c => .int .u8 (oneZ k c : Int)) (made_one k n)
        rw [hW]; simpa [size_madeCells] using this
      have hWs : W.heap.size = wr.heap.size + 1 := by rw [hW]; simp
      have hWc : Ch (fun _ => False) wr W := by rw [hW]; exact (Ch.refl _ _).alloc _ _
      have hWo : W.ownsRow w.heap.size /-t-/24 1 u4 k xs := ownsRow_ch ho hWc
      have hWrows : ∀ r, r < k → ∃ x, xs[r]? = some x ∧ RowV W x n (oneZ r) ∧ ∀ b, x.ownBlock = some b → b < W.heap.size ∧ u4.ownBlock ≠ some b ∧ Far w.heap.size W b := fun r hr => by
        obtain ⟨x, hx, hv, hoo⟩ := hrows r hr
        exact ⟨x, hx, hv.ch hWc (fun _ _ f => f), fun b hb => ⟨Nat.lt_of_lt_of_le (hoo b hb).1 hWc.size, (hoo b hb).2.1, (hoo b hb).2.2.ch hWc (hoo b hb).1⟩⟩
      have hX : RowV W (.slice (some ⟨wr.heap.size, 0, none⟩) n n) n (oneZ k) := ⟨_, _, rfl, by omega, fun _ => ⟨_, 0, rfl, fun c hc => ⟨by rw [Nat.zero_add]; exact hWr.cell hc, by unfold oneZ; split <;> omega⟩⟩⟩
      have hXb : ∀ b, (Value.slice (some ⟨wr.heap.size, 0, none⟩) n n).ownBlock = some b → b < W.heap.size ∧ u4.ownBlock ≠ some b ∧ Far w.heap.size W b := fun b hb => by
        have e : wr.heap.size = b := by simpa [Value.ownBlock] using hb
        have hs0 := hch.size
        refine ⟨by omega, fun q => ?_, Far.row (e ▸ hWr) (by omega)⟩
        have := (World.ownsRow.lt ho b q).2
        omega
      have HN := Lib.hid (show ∀ j u, [Value.slice (some ⟨wr.heap.size, 0, none⟩) n n][j]? = some u → (W.alloc (.cells #[.slice (some ⟨wr.heap.size, 0, none⟩) n n] /-t-/24)).cell? ((⟨wr.heap.size + 1, 0, none⟩ : Addr).add j) = some u from by rw [← hWs]; exact one_news W _ _)
      have HO2 := Lib.hid (hWo.alloc (.cells #[.slice (some ⟨wr.heap.size, 0, none⟩) n n] /-t-/24))
      have HS2 := Lib.hid (show (W.alloc (.cells #[.slice (some ⟨wr.heap.size, 0, none⟩) n n] /-t-/24)).heap.size = wr.heap.size + 2 by simp [hWs])
      have HB2 := Lib.hid (show w.heap.size ≤ (W.alloc (.cells #[.slice (some ⟨wr.heap.size, 0, none⟩) n n] /-t-/24)).heap.size by have := hch.size; simp; omega)
      have HWO := Lib.hid hWo
      have HWR := Lib.hid hWrows
      have HX := Lib.hid hX
      have HXB := Lib.hid hXb
      have HWC := Lib.hid (hch.trans hWc)
      have HWS := Lib.hid hWs
      have HW := Lib.hid hW
      have H1 := Lib.hid (show ∀ u ∈ [Value.slice (some ⟨wr.heap.size, 0, none⟩) n n], u.oneCell' = true from fun u hu => by rw [List.mem_singleton] at hu; rw [hu]; rfl)
      have HM1 := Lib.hid (show k + 1 ≤ maxLen by unfold maxLen; omega)
      have HM2 := Lib.hid (show (k + 1) * 24 ≤ 140737488355328 by omega)
      rw [HW.out] at HN HO2 HS2 HB2
      clear hW hWr hWs hWc hWo hWrows hX hXb ho hrows
      go_wp2_with (at_builtin; refine wpList_append_lies _ rfl _ _ /-t-/37 rfl w.heap.size /-t-/24 i0 (.slice none 0 0) 1 24 Tryz.underlying37 hi hz0 hz1 hz2 rfl (by decide) u4 k xs rfl HO2.out ⟨wr.heap.size + 1, 0, none⟩ 1 1 [.slice (some ⟨wr.heap.size, 0, none⟩) n n] rfl rfl HN.out H1.out (by decide) HM1.out HM2.out HB2.out (wr.heap.size + 2) HS2.out ?_; intro g cap w1 h1 h2 h3 h4)
      rw [← HW.out] at h2
      have hnb : Bld w.heap.size w1 (.slice (some ⟨g, 0, none⟩) (k + 1) cap) (k + 1) (fun _ => n) oneZ := Bld.more _ HWO.out HWR.out HX.out HXB.out h1 h2 (by rw [HWS.out]; exact h3)
      have hnc : Ch (fun _ => False) w w1 := Bld.moreCh _ _ HWC.out HWO.out (Nat.le_refl _) h2
      clear h1 h2 h3 h4
      go_wp2
      go_roundw
      case rel => exact ⟨k + 1, by omega, by go_num, hnc, hnb⟩
      case measure => simp [intOf]; omega
    · have HE := Lib.hid (show k = n by omega)
      obtain ⟨A, C, rfl, _⟩ := id (hbld.mat (by omega))
      have HM := Lib.hid hbld
      clear hbld
      go_wp2
      go_ret2
      exact ⟨_, rfl, by have := HM.out; rw [HE.out] at this; rw [HE.out]; exact this, hch⟩
end Go.Proofs.YtlbdopcchoklhaaGreat

namespace Go.Proofs.YtlbdopcchoklhaaGreat
open Go.RowKit
set_option linter.unusedVariables false
set_option maxRecDepth 100000

/-- One byte more. -/
theorem row_more {base : Nat} {w0 w w' : World} {v : Value} {k g cap : Nat} {z : Nat → Nat} (hc : Ch (fun _ => False) w0 w) (h1 : w.ownsRow base /-t-/5 1 v k (bytesL k z)) (hb : w0.heap.size ≤ base) (c : Array Value) (t : TypeId)
    (h : w'.ownsRow base /-t-/5 1 (.slice (some ⟨g, 0, none⟩) (k + 1) cap) (k + 1) (bytesL k z ++ [Value.int .u8 (z k : Int)])) (hg : (w.alloc (.cells c t)).grownBy w' v.ownBlock) :
    w'.ownsRow base /-t-/5 1 (.slice (some ⟨g, 0, none⟩) (k + 1) cap) (k + 1) (bytesL (k + 1) z) ∧ Ch (fun _ => False) w0 w' :=
  ⟨by rw [bytesL_snoc]; exact h, (hc.alloc c t).grown hg (fun i hi => Or.inr (Nat.le_trans hb (World.ownsRow.lt h1 i hi).1))⟩
theorem off_new {base b2 : Nat} {w0 w : World} {v rv : Value} {k c : Nat} {xs ys : List Value} {e : TypeId} (h1 : w0.ownsRow base /-t-/24 1 v k xs) (hch : Ch (fun _ => False) w0 w) (h2 : w.ownsRow w0.heap.size e 1 rv c ys) {lo : Nat} (hlo : lo ≤ w0.heap.size) :
    ∀ b, rv.ownBlock = some b → b < w.heap.size ∧ v.ownBlock ≠ some b ∧ Far lo w b := fun b hb => by
  have := World.ownsRow.lt h2 b hb
  refine ⟨this.2, fun q => ?_, Far.owns h2 hb (by omega)⟩
  have := (World.ownsRow.lt h1 b q).2
  omega

set_option maxHeartbeats 1600000 in
set_option maxRecDepth 100000 in
theorem rcauchy_new (n m : Int) (n1 : 1 ≤ n) (n2 : n ≤ 64) (m1 : 1 ≤ m) (m2 : m ≤ 64) (w : World) : Calls Tryz.prog 110 #[.int .i64 n, .int .i64 m] w (FreshPost n.toNat m.toNat (cauZ m.toNat) w) := by
  obtain ⟨n, rfl⟩ := Int.eq_ofNat_of_zero_le (show 0 ≤ n by omega)
  obtain ⟨m, rfl⟩ := Int.eq_ofNat_of_zero_le (show 0 ≤ m by omega)
  rw [Int.toNat_natCast, Int.toNat_natCast]
  have t1 : decide ((n : Int) < 1) = false := by simp; omega
  have t2 : decide ((m : Int) < 1) = false := by simp; omega
  have t3 : decide ((64 : Int) < (n : Int)) = false := by simp; omega
  have t4 : decide ((64 : Int) < (m : Int)) = false := by simp; omega
  obtain ⟨i0, hi, hz0, hz1, hz2⟩ := info_parts Tryz.info24
  obtain ⟨j0, gi, gz0, gz1, gz2⟩ := info_parts Tryz.info5
  go_enter Tryz.func110, Tryz.ntmps110
  go_wp2
  go_loopw [6, 7, 8, 9] (fun v i _ _ wr => ∃ k : Nat, k ≤ n ∧ i = .int .i64 k ∧ Ch (fun _ => False) w wr ∧ Bld w.heap.size wr v k (fun _ => m) (cauZ m)) (fun _ i _ _ _ => n - (intOf i).toNat)
  case atStart => exact ⟨0, Nat.zero_le _, rfl, Ch.refl _ _, Bld.nil _ _ _ _⟩
  case round =>
    obtain ⟨k, hk, rfl, hch, hbld⟩ := hrel
    by_cases hlt : k < n
    · obtain ⟨wo, rfl⟩ : ∃ wo : World, wo = wr := ⟨_, rfl⟩
      obtain ⟨xs, ho, hrows⟩ := hbld
      have HO := Lib.hid ho
      have HR := Lib.hid hrows
      have HCH := Lib.hid hch
      clear ho hrows hch
      go_wp2
      go_loopw [8, 9] (fun v i wi => ∃ c : Nat, c ≤ m ∧ i = .int .i64 c ∧ Ch (fun _ => False) wo wi ∧ wi.ownsRow wo.heap.size /-t-/5 1 v c (bytesL c (cauZ m k))) (fun _ i _ => m - (intOf i).toNat)
      case atStart => exact ⟨0, Nat.zero_le _, rfl, Ch.refl _ _, World.ownsRow_nil _ _ _ _⟩
      case round =>
        obtain ⟨c, hc, rfl, hch2, hrow⟩ := hrel
        by_cases hlt2 : c < m
        · have HV := Lib.hid (show qv 1 (xr (m + k) c) = (cauZ m k c : Int) from by rw [qv_pos (cau_sum hlt2)]; rfl)
          have hx : xr (m + k) c < 256 := Gf.xor_lt (by omega) (by omega)
          have HT := Lib.hid (show ((m : Int) + (k : Int)).toNat = m + k by omega)
          have HA := Lib.hid (app_mk (x := .int .u8 (cauZ m k c : Int)) hrow hch2.size rfl (by omega))
          have HRW := Lib.hid hrow
          have HC2 := Lib.hid hch2
          have HM2 := Lib.hid (show (c + 1) * 1 ≤ 140737488355328 by omega)
          clear hrow hch2
          go_wp2_with fail
          refine (radd_any _ _ (by omega) (by omega) (by omega) (by omega) _).mono ?_
          rintro e w1 ⟨rfl, rfl⟩
          rw [HT.out, Int.toNat_natCast]
          go_wp2_with fail
          refine (rdiv_any _ _ (by omega) (by omega) (by omega) (by omega) _).mono ?_
          rintro e w1 ⟨rfl, rfl⟩
          rw [Int.toNat_natCast, show (1 : Int).toNat = 1 from rfl, HV.out]
          go_wp2_with (at_builtin; refine wpList_append_lies _ rfl _ _ /-t-/24 rfl wo.heap.size /-t-/5 j0 (.int .u8 0) 1 1 Tryz.underlying24 gi gz0 gz1 gz2 rfl (by decide) _ c (bytesL c (cauZ m k)) rfl HA.out.o ⟨wr.heap.size, 0, none⟩ 1 1 [.int .u8 (cauZ m k c : Int)] rfl rfl HA.out.n HA.out.c (by decide) HA.out.m HM2.out HA.out.b (wr.heap.size + 1) HA.out.s ?_; intro g cap w1 h1 h2 h3 h4)
          have hnext := row_more HC2.out HRW.out (Nat.le_refl _) _ _ h1 h2
          clear h1 h2 h3 h4
          go_wp2
          go_roundw
          case rel => exact ⟨c + 1, by omega, by go_num, hnext.2, hnext.1⟩
          case measure => simp [intOf]; omega
        · have HE := Lib.hid (show c = m by omega)
          rw [HE.out] at hrow
          have hX : RowV wr u8 m (cauZ m k) := ownsRow_rowV hrow (by omega) (fun q _ => cauZ_lt _ _ _)
          obtain ⟨A, C, rfl, _⟩ := id hX
          have hxb := off_new (b2 := 0) HO.out hch2 hrow HCH.out.size
          have ho2 := ownsRow_ch HO.out hch2
          have HA := Lib.hid (app_mk (x := .slice A m C) ho2 (Nat.le_trans HCH.out.size hch2.size) rfl (by omega))
          have HR2 := Lib.hid (show ∀ r, r < k → ∃ x, xs[r]? = some x ∧ RowV wr x m (cauZ m r) ∧ ∀ b, x.ownBlock = some b → b < wr.heap.size ∧ u6.ownBlock ≠ some b ∧ Far w.heap.size wr b from fun r hr => by
            obtain ⟨x, hx, hv, hoo⟩ := HR.out r hr
            exact ⟨x, hx, hv.ch hch2 (fun _ _ f => f), fun b hb => ⟨Nat.lt_of_lt_of_le (hoo b hb).1 hch2.size, (hoo b hb).2.1, (hoo b hb).2.2.ch hch2 (hoo b hb).1⟩⟩)
          have HX := Lib.hid hX
          have HXB := Lib.hid hxb
          have HO2 := Lib.hid ho2
          have HC2 := Lib.hid (HCH.out.trans hch2)
          have HM2 := Lib.hid (show (k + 1) * 24 ≤ 140737488355328 by omega)
          clear hX hxb ho2 hch2 hrow
          go_wp2_with (at_builtin; refine wpList_append_lies _ rfl _ _ /-t-/37 rfl w.heap.size /-t-/24 i0 (.slice none 0 0) 1 24 Tryz.underlying37 hi hz0 hz1 hz2 rfl (by decide) u6 k xs rfl HA.out.o ⟨wr.heap.size, 0, none⟩ 1 1 [.slice A m C] rfl rfl HA.out.n HA.out.c (by decide) HA.out.m HM2.out HA.out.b (wr.heap.size + 1) HA.out.s ?_; intro g cap w1 h1 h2 h3 h4)
          have hnb : Bld w.heap.size w1 (.slice (some ⟨g, 0, none⟩) (k + 1) cap) (k + 1) (fun _ => m) (cauZ m) := Bld.more _ HO2.out HR2.out HX.out HXB.out h1 h2 h3
          have hnc : Ch (fun _ => False) w w1 := Bld.moreCh _ _ HC2.out HO2.out (Nat.le_refl _) h2
          clear h1 h2 h3 h4
          go_wp2
          go_roundw
          case rel => exact ⟨k + 1, by omega, by go_num, hnc, hnb⟩
          case measure => simp [intOf]; omega
    · have HE := Lib.hid (show k = n by omega)
      obtain ⟨A, C, rfl, _⟩ := id (hbld.mat (by omega))
      have HM := Lib.hid hbld
      clear hbld
      go_wp2
      go_ret2
      exact ⟨_, rfl, by have := HM.out; rw [HE.out] at this; rw [HE.out]; exact this, hch⟩
end Go.Proofs.YtlbdopcchoklhaaGreat

namespace Go.Proofs.YtlbdopcchoklhaaGreat
open Go.RowKit
set_option linter.unusedVariables false
set_option maxRecDepth 100000

theorem rmul_quiet (a b : Int) (a0 : 0 ≤ a) (a1 : a < 256) (b0 : 0 ≤ b) (b1 : b < 256) (w : World) (k : Nat) :
    Calls Tryz.prog 111 #[.int .u8 a, .int .u8 b] (w.drewN k) fun e w' => e = .returned (.int .u8 (Gf.mul a.toNat b.toNat : Int)) ∧ ∃ m, w' = w.drewN m :=
  (rmul_any a b a0 a1 b0 b1 (w.drewN k)).mono fun _ _ ⟨he, hw⟩ => ⟨he, k, hw.symm⟩

set_option maxHeartbeats 3200000 in
set_option maxRecDepth 100000 in
theorem rmulM_new (va vb : Value) (n k : Nat) (L M : Nat → Nat) (X Y : Nat → Nat → Nat) (w : World) (ha : MatV w va n L X) (hb : MatV w vb k M Y) (m1 : mayBF n L = true) (m2 : mayBF k M = true) (hk : L 0 = k) :
    Calls Tryz.prog 71 #[va, vb] w (FreshPost n (M 0) (mulZ k X Y) w) := by
  obtain ⟨n1, n2, l1, l2, hL⟩ := mayB_true m1
  obtain ⟨k1, k2, q1, q2, hM⟩ := mayB_true m2
  obtain ⟨ba, oa, Ca, rfl, _, hra⟩ := ha.some (by omega)
  obtain ⟨bb, ob, Cb, rfl, _, hrb⟩ := hb.some (by omega)
  obtain ⟨A0, D0, ca0, _, _⟩ := hra 0 (by omega)
  obtain ⟨B0, E0, cb0, _, _⟩ := hrb 0 (by omega)
  rw [Nat.add_zero, hk] at ca0
  rw [Nat.add_zero] at cb0
  obtain ⟨m, hm⟩ : ∃ m, m = M 0 := ⟨_, rfl⟩
  rw [← hm] at cb0 q1 q2 ⊢
  have HA := Lib.hid hra
  have HB := Lib.hid hrb
  have HL := Lib.hid (show ∀ r, r < n → L r = k from fun r hr => by rw [hL r hr, hk])
  have HM := Lib.hid (show ∀ r, r < k → M r = m from fun r hr => by rw [hM r hr, hm])
  have CB0 := Lib.hid cb0
  have b1 : ((k : Int) != (k : Int)) = false := by simp
  have npos : 0 < n := by omega
  have kpos : 0 < k := by omega
  obtain ⟨i0, hi, hz0, hz1, hz2⟩ := info_parts Tryz.info24
  obtain ⟨j0, gi, gz0, gz1, gz2⟩ := info_parts Tryz.info5
  have HHA := Lib.hid ha
  have HHB := Lib.hid hb
  clear hra hrb hL hM ha hb hk hm
  go_enter Tryz.func71, Tryz.ntmps71
  go_wp2_with fail
  refine (rmay_anyF _ n L X _ HHA.out).mono ?_
  rintro e w1 ⟨rfl, d1, rfl⟩
  go_wp2_with fail
  refine (rmay_anyF _ k M Y _ (HHB.out.drewN _)).mono ?_
  rintro e w2 ⟨rfl, d2, rfl⟩
  go_wp2
  obtain ⟨ws, hws⟩ : ∃ ws, ws = w.drewN (d1 + d2) := ⟨_, rfl⟩
  have hchs : Ch (fun _ => False) w ws := by rw [hws]; exact (Ch.refl _ _).drewN _
  have HWS := Lib.hid hws
  clear hws
  rw [← HWS.out]
  clear ca0 cb0
  go_loopw [8, 9, 10, 11, 12, 13, 14] (fun v i _ _ _ _ _ wr => ∃ r : Nat, r ≤ n ∧ i = .int .i64 r ∧ Ch (fun _ => False) w wr ∧ Bld w.heap.size wr v r (fun _ => m) (mulZ k X Y)) (fun _ i _ _ _ _ _ _ => n - (intOf i).toNat)
  case atStart => exact ⟨0, Nat.zero_le _, rfl, hchs, Bld.nil _ _ _ _⟩
  case round =>
    obtain ⟨r, hr, rfl, hch, hbld⟩ := hrel
    by_cases hlt : r < n
    · obtain ⟨wo, rfl⟩ : ∃ wo : World, wo = wr := ⟨_, rfl⟩
      obtain ⟨xs, ho, hrows⟩ := hbld
      obtain ⟨Ar, Dr, cr, _, hr3⟩ := HA.out r hlt
      rw [HL.out r hlt] at cr hr3
      obtain ⟨br, or', rfl, hXr⟩ := hr3 kpos
      clear hr3
      have HO := Lib.hid ho
      have HR := Lib.hid hrows
      have HCH := Lib.hid hch
      have HXR := Lib.hid hXr
      have CR := Lib.hid cr
      clear ho hrows hch hXr cr
      go_wp2
      go_loopw [10, 11, 12, 13, 14] (fun v i _ _ _ wi => ∃ c : Nat, c ≤ m ∧ i = .int .i64 c ∧ Ch (fun _ => False) wo wi ∧ wi.ownsRow wo.heap.size /-t-/5 1 v c (bytesL c (mulZ k X Y r))) (fun _ i _ _ _ _ => m - (intOf i).toNat)
      case atStart => exact ⟨0, Nat.zero_le _, rfl, Ch.refl _ _, World.ownsRow_nil _ _ _ _⟩
      case round =>
        obtain ⟨c, hc, rfl, hch2, hrow⟩ := hrel
        have cb1 := (HCH.out.trans hch2).cell CB0.out (fun f => f)
        by_cases hlt2 : c < m
        · obtain ⟨wm, rfl⟩ : ∃ wm : World, wm = wr := ⟨_, rfl⟩
          have HRW := Lib.hid hrow
          have HC2 := Lib.hid hch2
          clear hrow hch2
          go_wp2
          clear cb1
          go_loopw [12, 13, 14] (fun s i _ wi => ∃ j : Nat, j ≤ k ∧ i = .int .i64 j ∧ s = .int .u8 (mulZ j X Y r c : Int) ∧ Hid (∃ d, wi = wm.drewN d)) (fun _ i _ _ => k - (intOf i).toNat)
          case atStart => exact ⟨0, Nat.zero_le _, rfl, rfl, ⟨0, rfl⟩⟩
          case round =>
            obtain ⟨j, hj, rfl, rfl, HD⟩ := hrel
            have hdr : Ch (fun _ => False) wm wr := by obtain ⟨d, e⟩ := HD.out; rw [e]; exact (Ch.refl _ _).drewN d
            by_cases hlt3 : j < k
            · have hall := (HCH.out.trans HC2.out).trans hdr
              obtain ⟨Bj, Ej, cj, _, hj3⟩ := HB.out j hlt3
              rw [HM.out j hlt3] at cj hj3
              obtain ⟨bj, oj, rfl, hYj⟩ := hj3 (by omega)
              clear hj3
              have e1 := hall.cell CR.out (fun f => f)
              have e2 := hall.cell (HXR.out j hlt3).1 (fun f => f)
              have e3 := hall.cell cj (fun f => f)
              have e4 := hall.cell (hYj c hlt2).1 (fun f => f)
              have x1 := (HXR.out j hlt3).2
              have x2 := (hYj c hlt2).2
              have x3 := mulZ_lt j X Y r c
              have x4 := Gf.mul_lt (X r j) (Y j c)
              have p1 : (0 : Int) ≤ (r : Int) := Int.natCast_nonneg _
              have p2 : (r : Int) < (n : Int) := by omega
              have p3 : (0 : Int) ≤ (j : Int) := Int.natCast_nonneg _
              have p4 : (j : Int) < (k : Int) := by omega
              have p5 : (0 : Int) ≤ (c : Int) := Int.natCast_nonneg _
              have p6 : (c : Int) < (m : Int) := by omega
              have HD2 := Lib.hid (show ∀ nq, Hid (∃ d, wr.drewN nq = wm.drewN d) from fun nq => by obtain ⟨d, e⟩ := HD.out; exact ⟨d + nq, by rw [e, World.drewN_drewN]⟩)
              clear hall cj hYj hdr
              go_wp2
              go_quiet ((go_at_call 111; exact rmul_quiet _ _ (by omega) (by omega) (by omega) (by omega) _ _))
              go_wp2_with fail
              refine (radd_any _ _ (by omega) (by omega) (by omega) (by omega) _).mono ?_
              rintro e w5 ⟨rfl, rfl⟩
              go_wp2
              go_roundw
              case rel => exact ⟨j + 1, by omega, by go_num, rfl, HD2.out _⟩
              case measure => simp [intOf]; omega
            · have HE := Lib.hid (show j = k by omega)
              rw [HE.out]
              have hrw := ownsRow_ch HRW.out hdr
              have hc3 := HC2.out.trans hdr
              have HA2 := Lib.hid (app_mk (x := .int .u8 (mulZ k X Y r c : Int)) hrw hc3.size rfl (by omega))
              have HRW2 := Lib.hid hrw
              have HC3 := Lib.hid hc3
              have HM2 := Lib.hid (show (c + 1) * 1 ≤ 140737488355328 by omega)
              clear hrw hc3 hdr
              go_wp2_with (at_builtin; refine wpList_append_lies _ rfl _ _ /-t-/24 rfl wo.heap.size /-t-/5 j0 (.int .u8 0) 1 1 Tryz.underlying24 gi gz0 gz1 gz2 rfl (by decide) _ c (bytesL c (mulZ k X Y r)) rfl HA2.out.o ⟨wr.heap.size, 0, none⟩ 1 1 [.int .u8 (mulZ k X Y r c : Int)] rfl rfl HA2.out.n HA2.out.c (by decide) HA2.out.m HM2.out HA2.out.b (wr.heap.size + 1) HA2.out.s ?_; intro g cap w1 h1 h2 h3 h4)
              have hnext := row_more (z := mulZ k X Y r) HC3.out HRW2.out (Nat.le_refl _) _ _ h1 h2
              clear h1 h2 h3 h4
              go_wp2
              go_roundw
              case rel => exact ⟨c + 1, by omega, by go_num, hnext.2, hnext.1⟩
              case measure => simp [intOf]; omega
        · have HE := Lib.hid (show c = m by omega)
          rw [HE.out] at hrow
          have hX : RowV wr u10 m (mulZ k X Y r) := ownsRow_rowV hrow (by omega) (fun q _ => mulZ_lt _ _ _ _ _)
          obtain ⟨A, C, rfl, _⟩ := id hX
          have hxb := off_new (b2 := 0) HO.out hch2 hrow HCH.out.size
          have ho2 := ownsRow_ch HO.out hch2
          have HAA := Lib.hid (app_mk (x := .slice A m C) ho2 (Nat.le_trans HCH.out.size hch2.size) rfl (by omega))
          have HR2 := Lib.hid (show ∀ q, q < r → ∃ x, xs[q]? = some x ∧ RowV wr x m (mulZ k X Y q) ∧ ∀ b, x.ownBlock = some b → b < wr.heap.size ∧ u8.ownBlock ≠ some b ∧ Far w.heap.size wr b from fun q hq => by
            obtain ⟨x, hx, hv, hoo⟩ := HR.out q hq
            exact ⟨x, hx, hv.ch hch2 (fun _ _ f => f), fun b hb => ⟨Nat.lt_of_lt_of_le (hoo b hb).1 hch2.size, (hoo b hb).2.1, (hoo b hb).2.2.ch hch2 (hoo b hb).1⟩⟩)
          have HX := Lib.hid hX
          have HXB := Lib.hid hxb
          have HO2 := Lib.hid ho2
          have HC2 := Lib.hid (HCH.out.trans hch2)
          have HM2 := Lib.hid (show (r + 1) * 24 ≤ 140737488355328 by omega)
          clear hX hxb ho2 hch2 hrow
          go_wp2_with (at_builtin; refine wpList_append_lies _ rfl _ _ /-t-/37 rfl w.heap.size /-t-/24 i0 (.slice none 0 0) 1 24 Tryz.underlying37 hi hz0 hz1 hz2 rfl (by decide) u8 r xs rfl HAA.out.o ⟨wr.heap.size, 0, none⟩ 1 1 [.slice A m C] rfl rfl HAA.out.n HAA.out.c (by decide) HAA.out.m HM2.out HAA.out.b (wr.heap.size + 1) HAA.out.s ?_; intro g cap w1 h1 h2 h3 h4)
          have hnb : Bld w.heap.size w1 (.slice (some ⟨g, 0, none⟩) (r + 1) cap) (r + 1) (fun _ => m) (mulZ k X Y) := Bld.more _ HO2.out HR2.out HX.out HXB.out h1 h2 h3
          have hnc : Ch (fun _ => False) w w1 := Bld.moreCh _ _ HC2.out HO2.out (Nat.le_refl _) h2
          clear h1 h2 h3 h4
          go_wp2
          go_roundw
          case rel => exact ⟨r + 1, by omega, by go_num, hnc, hnb⟩
          case measure => simp [intOf]; omega
    · have HE := Lib.hid (show r = n by omega)
      obtain ⟨A, C, rfl, _⟩ := id (hbld.mat (by omega))
      have HM := Lib.hid hbld
      clear hbld
      go_wp2
      go_ret2
      exact ⟨_, rfl, by have := HM.out; rw [HE.out] at this; rw [HE.out]; exact this, hch⟩
end Go.Proofs.YtlbdopcchoklhaaGreat

namespace Go.Proofs.YtlbdopcchoklhaaGreat
open Go.RowKit
set_option linter.unusedVariables false
set_option maxRecDepth 100000

set_option maxHeartbeats 1600000 in
theorem rrows_new (k m : Nat) (k1 : 1 ≤ k) (hkm : k + m ≤ 64) (w : World) : Calls Tryz.prog 70 #[.int .i64 (k : Int), .int .i64 (m : Int)] w (FreshPost (k + m) k (allZ k) w) := by
  have t1 : decide ((k : Int) < 1) = false := by simp; omega
  have t2 : decide ((64 : Int) < (k : Int)) = false := by simp; omega
  have t3 : decide ((m : Int) < 0) = false := by simp
  have t4 : decide ((64 : Int) < (m : Int)) = false := by simp; omega
  have t6 : decide ((64 : Int) < (k : Int) + (m : Int)) = false := by simp; omega
  by_cases h0 : m = 0
  · have t5 : decide (0 < m) = false := by simp [h0]
    have HE := Lib.hid h0
    clear h0
    go_enter Tryz.func70, Tryz.ntmps70
    go_wp2_with fail
    refine (rone_new _ (by omega) (by omega) _).mono ?_
    rintro e w1 ⟨v, rfl, hB, hch⟩
    rw [Int.toNat_natCast] at hB
    have HB := Lib.hid hB
    clear hB
    go_wp2
    go_ret2
    refine ⟨_, rfl, ?_, hch⟩
    rw [HE.out]
    exact BldL.congr HB.out fun r c hr _ => by unfold allZ; rw [if_pos (show r < k from hr)]
  · have t5 : decide ((0 : Int) < (m : Int)) = true := by simp; omega
    have m1 : 1 ≤ m := by omega
    clear h0
    go_enter Tryz.func70, Tryz.ntmps70
    go_wp2_with fail
    refine (rone_new _ (by omega) (by omega) _).mono ?_
    rintro e w1 ⟨v, rfl, hB, hch⟩
    rw [Int.toNat_natCast] at hB
    have HB := Lib.hid hB
    have HC := Lib.hid hch
    clear hB hch
    go_wp2_with fail
    refine (rcauchy_new _ _ (by omega) (by omega) (by omega) (by omega) _).mono ?_
    rintro e w2 ⟨u, rfl, hB2, hch2⟩
    rw [Int.toNat_natCast, Int.toNat_natCast] at hB2
    obtain ⟨v', w', hj⟩ := bld_join (BldL.ch HB.out hch2) hB2 (Nat.le_trans HC.out.size hch2.size) (by omega) (fun q hq => (BldL.block HB.out hq).2) HC.out.size
    have hchw := hj.ch (HC.out.trans hch2) (fun q hq => (BldL.block HB.out hq).1)
    have HJ := Lib.hid hj.1
    have HBJ := Lib.hid hj.2.1
    have HCW := Lib.hid hchw
    clear hB2 hch2 hj hchw
    go_wp2_with (at_builtin; refine wpList_rows_of _ rfl (.tmp 43) (.tmp 44) rfl rfl v u v' w' rfl rfl HJ.out ?_)
    go_ret2
    exact ⟨_, rfl, rows_bld HBJ.out, HCW.out⟩
set_option maxHeartbeats 1600000 in
theorem rencode_new (va : Value) (n m : Nat) (L : Nat → Nat) (X : Nat → Nat → Nat) (w : World) (ha : MatV w va n L X) (m1 : mayBF n L = true) (hm : n + m ≤ 64) : Calls Tryz.prog 40 #[va, .int .i64 (m : Int)] w (FreshPost m (L 0) (mulZ n (cauZ n) X) w) := by
  obtain ⟨n1, n2, l1, l2, hL⟩ := mayB_true m1
  obtain ⟨A, Ca, rfl, na, _⟩ := id ha
  have HA := Lib.hid ha
  have M1 := Lib.hid m1
  clear ha hL m1
  by_cases h0 : m = 0
  · have t5 : ((m : Int) == 0) = true := by simp [h0]
    have HE := Lib.hid h0
    clear h0
    go_enter Tryz.func40, Tryz.ntmps40
    go_wp2_with fail
    refine (rmay_anyF _ n L X _ HA.out).mono ?_
    rintro e w1 ⟨rfl, d1, rfl⟩
    rw [M1.out]
    go_wp2_with fail
    refine (rrows_new n m n1 hm _).mono ?_
    rintro e w1 ⟨v, rfl, hB, hch⟩
    clear hB
    go_wp2
    go_ret2
    refine ⟨_, rfl, ?_, ((Ch.refl _ w).drewN _).trans hch⟩
    rw [HE.out]
    exact Bld.nil _ _ _ _
  · have t5 : ((m : Int) == 0) = false := by simp [h0]
    have mp : 1 ≤ m := by omega
    clear h0
    go_enter Tryz.func40, Tryz.ntmps40
    go_wp2_with fail
    refine (rmay_anyF _ n L X _ HA.out).mono ?_
    rintro e w1 ⟨rfl, d1, rfl⟩
    rw [M1.out]
    go_wp2_with fail
    refine (rrows_new n m n1 hm _).mono ?_
    rintro e w1 ⟨v, rfl, hB, hch⟩
    have hM := hB.mat (by omega)
    obtain ⟨b, o, C, rfl, _, _⟩ := hM.some (by omega)
    obtain ⟨A', C', e', hc1, _⟩ := id hM
    obtain rfl : C = C' := by injection e'
    have hT := mat_tail hM (show n < n + m by omega)
    rw [Nat.add_sub_cancel_left] at hT
    have HT := Lib.hid hT
    have HC := Lib.hid (((Ch.refl _ w).drewN _).trans hch)
    have hcap := hc1.2
    have s1 : n + m - n = m := Nat.add_sub_cancel_left n m
    have MR := Lib.hid (may_const mp (by omega : m ≤ 64) n1 (by omega : n ≤ 4096))
    clear hM hB hT hch e' hc1
    go_wp2_with fail
    refine (rmulM_new _ _ m n _ L _ X _ HT.out (HA.out.gr HC.out) MR.out M1.out rfl).mono ?_
    rintro e w2 ⟨u, rfl, hB2, hch2⟩
    have HB2 := Lib.hid hB2
    have HC2 := Lib.hid hch2
    clear hB2 hch2
    go_wp2
    go_ret2
    exact ⟨_, rfl, Bld.base (BldL.congr HB2.out fun r c _ _ => enc_congr (m := m) r c) HC.out.size, HC.out.trans HC2.out⟩
end Go.Proofs.YtlbdopcchoklhaaGreat

namespace Go.Proofs.YtlbdopcchoklhaaGreat
open Go.RowKit
set_option linter.unusedVariables false
set_option maxRecDepth 100000
set_option linter.unusedSimpArgs false

theorem snpP_at (vol ep no : Int) (n : Gn) (a : Nat) (Z : Nat → Nat) {s i : Nat} (hi : i < n.q) : snpP vol ep no n a Z (s * n.q + i) = ⟨(frsN n a s : Int) + (i : Int), 256, sectZ (shrK vol ep no n a Z undef s i)⟩ := by
  unfold snpP
  have h1 : (s * n.q + i) / n.q = s := by
    rw [Nat.add_comm, Nat.add_mul_div_right _ _ (by omega), Nat.div_eq_of_lt hi, Nat.zero_add]
  have h2 : (s * n.q + i) % n.q = i := by
    rw [Nat.add_comm, Nat.add_mul_mod_self_right, Nat.mod_eq_of_lt hi]
  rw [h1, h2]
theorem snp_room {n : Gn} (hn : n.Ok) : wrap64 (wrap64 (n.ge.st * n.ge.k) * 228) = ((n.S * n.K * 228 : Nat) : Int) := by
  show wrap64 (wrap64 ((n.S : Int) * (n.K : Int)) * 228) = _
  have s2 := hn.s2
  have k2 := hn.k2
  have h1 : n.S * n.K ≤ 32 * 16 := Nat.mul_le_mul s2 k2
  rw [← Int.natCast_mul, IntWalk.wrap64_in ((n.S * n.K : Nat) : Int) ⟨by omega, by omega⟩, IntWalk.wrap64_in (((n.S * n.K : Nat) : Int) * 228) ⟨by omega, by omega⟩]
  omega
set_option maxHeartbeats 3200000 in
theorem rputs_no (A : Option Addr) (l C : Nat) (vol : Int) (g : Ge) (a ep no : Int) (w : World) (h : ptsB vol g a ep no = false) : Calls Tryz.prog 14 #[.int .i64 vol, .agg (geC g), .int .i64 a, .int .i64 ep, .int .i64 no, .slice A l C] w (ErrPost 1 w) := by
  obtain ⟨w1, H, hR⟩ := geR w g
  have HR := Lib.hid hR
  obtain ⟨x0, x1, x2, x3⟩ := hR.x
  clear hR
  cases hf : frsB g a 0 with
  | false =>
    have HF := Lib.hid (rfirst_no g a 0 w1 hf)
    clear h hf
    go_enter Tryz.func14, Tryz.ntmps14
    go_wp2_with (first | ((with_reducible refine wpList_isOp (.box 23 (.tmp 1)) rfl ?_); refine wpList_boxing _ w1 rfl 23 (.tmp 1) rfl (geC g) H rfl (by exact HR.out.sz) (by exact HR.out.al) ?_) | fail)
    refine HF.out.mono ?_
    rintro e w2 ⟨rfl, hc2⟩
    have HC := Lib.hid (HR.out.ch.trans hc2)
    clear hc2 x0 x1 x2 x3
    go_wp2
    go_ret2
    exact ⟨rfl, HC.out⟩
  | true =>
    obtain ⟨n, x, y, hn, rfl, rfl, hy0, hx, hy⟩ := frsB_nat hf
    have HF := Lib.hid (rfirst_yes n x 0 w1 hn hx (by have := hn.s1; omega))
    have HV := Lib.hid (fun w => w12_any vol w)
    have HE := Lib.hid (fun w => w12_any ep w)
    have HNO := Lib.hid (fun w => w12_any no w)
    have hm : (¬ (0 ≤ vol ∧ vol ≤ 4294967295)) ∨ ((0 ≤ vol ∧ vol ≤ 4294967295) ∧ ((¬ (0 ≤ ep ∧ ep ≤ 4294967295)) ∨ ((0 ≤ ep ∧ ep ≤ 4294967295) ∧ ¬ (0 ≤ no ∧ no ≤ 4294967295)))) := by
      by_cases q1 : 0 ≤ vol ∧ vol ≤ 4294967295
      · by_cases q2 : 0 ≤ ep ∧ ep ≤ 4294967295
        · refine Or.inr ⟨q1, Or.inr ⟨q2, fun q3 => ?_⟩⟩
          unfold ptsB at h
          rw [hf, wordB_iff.2 q1, wordB_iff.2 q2, wordB_iff.2 q3] at h
          cases h
        · exact Or.inr ⟨q1, Or.inl q2⟩
      · exact Or.inl q1
    have HM := Lib.hid hm
    clear h hf hm hx hy hy0 hn
    go_enter Tryz.func14, Tryz.ntmps14
    go_wp2_with (first | ((with_reducible refine wpList_isOp (.box 23 (.tmp 1)) rfl ?_); refine wpList_boxing _ w1 rfl 23 (.tmp 1) rfl (geC n.ge) H rfl (by exact HR.out.sz) (by exact HR.out.al) ?_) | fail)
    refine HF.out.mono ?_
    rintro e w2 ⟨rfl, hc2⟩
    have HC := Lib.hid (HR.out.ch.trans hc2)
    clear x0 x1 x2 x3 hc2
    go_wp2_with fail
    refine (HV.out _).mono ?_
    rintro e w3 ⟨rfl, rfl⟩
    rcases HM.out with q | ⟨q, q2⟩
    · rw [decide_eq_false q]
      go_wp2
      go_ret2
      exact ⟨rfl, HC.out⟩
    rw [decide_eq_true q]
    clear q
    go_wp2_with fail
    refine (HE.out _).mono ?_
    rintro e w3 ⟨rfl, rfl⟩
    rcases q2 with q | ⟨q, q3⟩
    · rw [decide_eq_false q]
      go_wp2
      go_ret2
      exact ⟨rfl, HC.out⟩
    rw [decide_eq_true q]
    clear q
    go_wp2_with fail
    refine (HNO.out _).mono ?_
    rintro e w3 ⟨rfl, rfl⟩
    rw [decide_eq_false q3]
    go_wp2
    go_ret2
    exact ⟨rfl, HC.out⟩
end Go.Proofs.YtlbdopcchoklhaaGreat

namespace Go.Proofs.YtlbdopcchoklhaaGreat
open Go.RowKit
set_option linter.unusedVariables false
set_option maxRecDepth 100000

theorem wpList_appB {ops : Array Oper} {rest : List Oper} {o : Oper} {a : Act} {Q : Exit → Act → World → Prop} (w : World) (hgd : o.guard = none) (s x : Operand)
    (ho : o.op = .call { callee := .builtin .append, args := #[s, x], argTypes := #[ /-t-/37, /-t-/37] }) (hty : o.type = /-t-/37) (sv xv v' : Value) (w' : World) (hs : a.eval s = sv) (hx : a.eval x = xv)
    (hrun : (Builtin.append_ #[ /-t-/37, /-t-/37] /-t-/37 #[sv, xv]).run Tryz.prog w = .ok v' w') (h : wpList Tryz.prog ops Q rest (a.put o.dst v') w') : wpList Tryz.prog ops Q (o :: rest) a w := by
  refine wpList_plain hgd fun _ hK => ?_
  unfold Oper.wp execOp
  simp only [ho, hty, resolve, invoke, builtin, Sem.run_bind, Sem.run_pure, Result.andThen_ok, List.map_toArray, List.map_cons, List.map_nil, hs, hx, hrun]
  exact hK _ _ h
end Go.Proofs.YtlbdopcchoklhaaGreat

namespace Go.Proofs.YtlbdopcchoklhaaGreat
open Go.RowKit
set_option linter.unusedVariables false
set_option maxRecDepth 100000
set_option linter.unusedSimpArgs false

/-- append of a row tto a matrix that is built, by its run. -/
theorem bld_app {base : Nat} {w0 wr : World} {v x : Value} {k : Nat} {L : Nat → Nat} {Z : Nat → Nat → Nat} (h : Bld base wr v k L Z) (hb0 : w0.heap.size ≤ base) (hb : base ≤ wr.heap.size) (hc : Ch (fun _ => False) w0 wr) (hx : RowV wr x (L k) (Z k)) (hxb : ∀ b, x.ownBlock = some b → b < wr.heap.size ∧ v.ownBlock ≠ some b ∧ Far base wr b) (hk : k ≤ 65536) :
    ∃ g cap w1, (Builtin.append_ #[ /-t-/37, /-t-/37] /-t-/37 #[v, .slice (some ⟨wr.heap.size, 0, none⟩) 1 1]).run Tryz.prog (wr.alloc (.cells #[x] /-t-/24)) = .ok (.slice (some ⟨g, 0, none⟩) (k + 1) cap) w1 ∧ Bld base w1 (.slice (some ⟨g, 0, none⟩) (k + 1) cap) (k + 1) L Z ∧ Ch (fun _ => False) w0 w1 := by
  obtain ⟨xs, h1, h2⟩ := h
  obtain ⟨i0, hi, hz0, hz1, hz2⟩ := info_parts Tryz.info24
  have k1 : Ch (fun _ => False) wr (wr.alloc (.cells #[x] /-t-/24)) := (Ch.refl _ wr).alloc _ _
  have hone : x.oneCell' = true := by obtain ⟨A, C, rfl, _⟩ := hx; rfl
  have hsz : (wr.alloc (.cells #[x] /-t-/24)).heap.size = wr.heap.size + 1 := by simp
  obtain ⟨g, cap, w2, a1, a2, a3, a4, a5⟩ := run_append_lies (P := Tryz.prog) (wr.alloc (.cells #[x] /-t-/24)) /-t-/37 /-t-/37 base /-t-/24 i0 (.slice none 0 0) 1 24 Tryz.underlying37 hi hz0 hz1 hz2 rfl (by decide) v k xs (ownsRow_ch h1 k1) ⟨wr.heap.size, 0, none⟩ 1 1 [x] rfl (fun j u hu => by
    rw [add_pl, blk_cell (heap_alloc_new wr _), Nat.zero_add]
    show ([x].toArray)[j]? = some u
    rw [List.getElem?_toArray]
    exact hu) (fun u hu => by rw [List.mem_singleton.1 hu]; exact hone) (by omega) (by unfold maxLen; omega) (by omega) (Nat.le_trans hb k1.size) _ rfl
  exact ⟨g, cap, w2, a1, Bld.more _ h1 h2 hx hxb a2 a3 (a4.imp id fun e => by rw [e]; exact hsz), Bld.moreCh _ _ hc h1 hb0 a3⟩
section
variable {w0 w w' : World} {g m i : Nat} {Z : Nat → Nat}
end
theorem at_wrap {s K k i : Nat} (hs : s ≤ 32) (hK : K ≤ 16) (hk : k ≤ 16) (hi : i ≤ 228) : wrap64 (wrap64 (wrap64 (wrap64 ((s : Int) * (K : Int)) + (k : Int)) * 228) + (i : Int)) = (((s * K + k) * 228 + i : Nat) : Int) := by
  have h1 : s * K ≤ 32 * 16 := Nat.mul_le_mul hs hK
  rw [← Int.natCast_mul, IntWalk.wrap64_in ((s * K : Nat) : Int) ⟨by omega, by omega⟩, IntWalk.wrap64_in (((s * K : Nat) : Int) + (k : Int)) ⟨by omega, by omega⟩, IntWalk.wrap64_in ((((s * K : Nat) : Int) + (k : Int)) * 228) ⟨by omega, by omega⟩, IntWalk.wrap64_in ((((s * K : Nat) : Int) + (k : Int)) * 228 + (i : Int)) ⟨by omega, by omega⟩]
  omega
theorem matX_of {base : Nat} {w : World} {v : Value} {n : Nat} {L L' : Nat → Nat} {Z Z' : Nat → Nat → Nat} (h : BldL base base w v n L Z) (h0 : 0 < n) (hL : ∀ r, r < n → L r = L' r) (hZ : ∀ r c, r < n → c < L r → Z r c = Z' r c) : MatX w (fun i => base ≤ i ∧ i < w.heap.size) v n L' Z' := by
  obtain ⟨xs, h1, h2⟩ := h
  have hlt := fun q (hq : v.ownBlock = some q) => World.ownsRow.lt h1 q hq
  rcases h1.2 with ⟨rfl, hn⟩ | ⟨g, cap, cur, rfl, _⟩
  · omega
  · refine ⟨g, 0, cap, rfl, hlt g rfl, fun r hr => ?_⟩
    obtain ⟨x, hx, hrow, hxb⟩ := h2 r hr
    have hc := World.ownsRow.cells h1 (g := g) rfl r x hx
    rw [add_pl] at hc
    obtain ⟨A', C', e, _⟩ := id hrow
    subst e
    rw [hL r hr] at hc hrow hxb
    refine ⟨A', C', hc, hrow.congr fun c hcl => hZ r c hr (by rw [hL r hr]; exact hcl), fun q hq => ⟨(hxb q hq).2.2.1, (hxb q hq).1⟩⟩
set_option maxHeartbeats 25600000 in
theorem rputs_yes (A : Option Addr) (l C : Nat) (z : Nat → Nat) (vol ep no : Int) (n : Gn) (a : Nat) (w : World) (hn : n.Ok) (ha : a ≤ 1) (hv : 0 ≤ vol ∧ vol ≤ 4294967295) (he : 0 ≤ ep ∧ ep ≤ 4294967295) (ho : 0 ≤ no ∧ no ≤ 4294967295) (hl : l ≤ n.S * n.K * 228) (hb : RowV w (.slice A l C) l z) :
    Calls Tryz.prog 14 #[.int .i64 vol, .agg (geC n.ge), .int .i64 (a : Int), .int .i64 ep, .int .i64 no, .slice A l C] w (PtsPost (n.S * n.q) (snpP vol ep no n a (padZ l z)) w) := by
  obtain ⟨w1, H, hR⟩ := geR w n.ge
  have HR := Lib.hid hR
  have HX := Lib.hid hR.x
  have HXC : Hid (∀ w' : World, Ch (fun _ => False) w1 w' → w'.cell? ⟨H, 0, none⟩ = some (.int .i64 (n.W : Int)) ∧ w'.cell? ⟨H, 1, none⟩ = some (.int .i64 (n.S : Int)) ∧ w'.cell? ⟨H, 2, none⟩ = some (.int .i64 (n.K : Int)) ∧ w'.cell? ⟨H, 3, none⟩ = some (.int .i64 (n.M : Int))) := Lib.hid fun w' k => (hR.x.gr k).all
  have HF := Lib.hid (rfirst_yes n a 0 w1 hn ha (by have := hn.s1; omega))
  have HF2 : Hid (∀ (s : Nat) (w : World), s < n.S → Calls Tryz.prog 12 #[.agg (geC n.ge), .int .i64 (a : Int), .int .i64 (s : Int)] w (Ans (.tuple #[.int .i64 (frsN n a s : Int), .int .i64 0]) w)) := Lib.hid fun s w hs => rfirst_yes n a s w hn ha hs
  have HV := Lib.hid (fun w => w12_any vol w)
  have HE := Lib.hid (fun w => w12_any ep w)
  have HNO := Lib.hid (fun w => w12_any no w)
  rw [decide_eq_true hv] at HV
  rw [decide_eq_true he] at HE
  rw [decide_eq_true ho] at HNO
  have HARG := Lib.hid (And.intro hv (And.intro he ho))
  obtain ⟨Z, hZ⟩ : ∃ Z, Z = padZ l z := ⟨_, rfl⟩
  have HZB : Hid (∀ i, Z i < 256) := Lib.hid (fun i => by rw [hZ]; exact padZ_b hb.bytes i)
  have HZP : Hid (∀ i, Z i = if i < l then z i else 0) := Lib.hid (fun i => by rw [hZ]; rfl)
  rw [← hZ]
  obtain ⟨f, hf⟩ : ∃ f, f = snpP vol ep no n a Z := ⟨_, rfl⟩
  rw [← hf]
  have HFF := Lib.hid hf
  have HN := Lib.hid hn
  have HA := Lib.hid ha
  have HB := Lib.hid hb
  have s0 : (0 : Int) ≤ (n.S : Int) := Int.natCast_nonneg _
  have s1 : (n.S : Int) ≤ 32 := by have := hn.s2; omega
  have k0 : (0 : Int) ≤ (n.K : Int) := Int.natCast_nonneg _
  have k1 : (n.K : Int) ≤ 16 := by have := hn.k2; omega
  have hl0 : (0 : Int) ≤ (l : Int) := Int.natCast_nonneg _
  have hl1 : l ≤ 116736 := Nat.le_trans hl (by have h1 : n.S * n.K ≤ 32 * 16 := Nat.mul_le_mul hn.s2 hn.k2; omega)
  have hmk : ∀ w : World, (Instr.makeSlice /-t-/24 (.int .i64 228) (.int .i64 228)).run Tryz.prog w = .ok (.slice (some ⟨w.heap.size, 0, none⟩) 228 228) (w.alloc (.cells (madeCells #[.int .u8 0] 228) /-t-/5)) := run_make_row' (P := Tryz.prog) 24 5 (.int .u8 0) 1 Tryz.underlying24 Tryz.info5 rfl .i64 .i64 228 (by omega) (by omega)
  have hroom : ¬ wrap64 (wrap64 ((n.S : Int) * (n.K : Int)) * 228) < (l : Int) := by
    have e := snp_room hn
    have e : wrap64 (wrap64 ((n.S : Int) * (n.K : Int)) * 228) = ((n.S * n.K * 228 : Nat) : Int) := e
    rw [e]
    omega
  have HMK := Lib.hid hmk
  have HRM := Lib.hid hroom
  clear hR hn ha hv he ho hb hl hZ hf hmk hroom
  obtain ⟨x0, x1, x2, x3⟩ := HXC.out _ (Ch.refl _ _)
  go_enter Tryz.func14, Tryz.ntmps14
  go_wp2_with (first | ((with_reducible refine wpList_isOp (.box 23 (.tmp 1)) rfl ?_); refine wpList_boxing _ w1 rfl 23 (.tmp 1) rfl (geC n.ge) H rfl (by exact HR.out.sz) (by exact HR.out.al) ?_) | fail)
  refine HF.out.mono ?_
  rintro e w2 ⟨rfl, hc2⟩
  have HC := Lib.hid (HR.out.ch.trans hc2)
  have HC12 := Lib.hid hc2
  clear x0 x1 x2 x3
  obtain ⟨x0, x1, x2, x3⟩ := HXC.out _ hc2
  clear hc2 HF
  go_wp2_with fail
  refine (HV.out _).mono ?_
  rintro e w3 ⟨rfl, rfl⟩
  go_wp2_with fail
  refine (HE.out _).mono ?_
  rintro e w3 ⟨rfl, rfl⟩
  go_wp2_with fail
  refine (HNO.out _).mono ?_
  rintro e w3 ⟨rfl, rfl⟩
  have hroom := HRM.out
  clear HV HE HNO
  go_wp2_with fail
  clear hroom HRM
  go_loopw [16, 17, 18, 19, 20, 21, 22, 23, 24, 25, 26, 27, 28, 29, 30, 63, 64, 65, 66, 67, 68, 69, 70, 71, 72, 73, 74, 75, 76, 77, 78, 79, 80, 81, 82, 83, 84, 85, 86, 87, 88, 89, 90, 91, 92, 93, 94, 95, 96, 97, 98, 99, 100, 101, 102, 103, 104, 105, 106, 107, 108, 109, 110, 111, 112, 113, 114, 115, 116, 117, 118, 119, 120, 121, 122, 123, 124, 125, 126, 127, 128, 129, 130, 131, 132, 133, 134, 135, 136, 137, 138, 139, 140, 141, 142, 143, 144, 145, 146, 147, 148, 149] (fun v s _ _ _ _ _ _ _ _ _ _ _ _ _ _ _ _ _ _ _ _ _ _ _ _ _ _ _ _ _ _ _ _ _ _ _ _ _ _ _ _ _ _ _ _ _ _ _ _ _ _ _ _ _ _ _ _ _ _ _ _ _ _ _ _ _ _ _ _ _ _ _ _ _ _ _ _ _ _ _ _ _ _ _ _ _ _ _ _ _ _ _ _ _ _ _ _ _ _ _ _ wr => ∃ s' : Nat, s' ≤ n.S ∧ s = .int .i64 s' ∧ Hid (∃ St, PutsO w2 wr v (s' * n.q) f St)) (fun _ s _ _ _ _ _ _ _ _ _ _ _ _ _ _ _ _ _ _ _ _ _ _ _ _ _ _ _ _ _ _ _ _ _ _ _ _ _ _ _ _ _ _ _ _ _ _ _ _ _ _ _ _ _ _ _ _ _ _ _ _ _ _ _ _ _ _ _ _ _ _ _ _ _ _ _ _ _ _ _ _ _ _ _ _ _ _ _ _ _ _ _ _ _ _ _ _ _ _ _ _ _ => n.S - (intOf s).toNat)
  case atStart => exact ⟨0, Nat.zero_le _, rfl, Lib.hid ⟨fun _ => undef, by rw [Nat.zero_mul]; exact PutsO.start w2 f _⟩⟩
  case round =>
    obtain ⟨s, hs, rfl, HP⟩ := hrel
    obtain ⟨ws, rfl⟩ : ∃ ws, ws = wr := ⟨_, rfl⟩
    have hc := HP.out.choose_spec.ch
    clear x0 x1 x2 x3
    obtain ⟨x0, x1, x2, x3⟩ := HXC.out _ (HC12.out.trans hc)
    have HCS := Lib.hid hc
    clear hc
    have t0 : (0 : Int) ≤ (s : Int) := Int.natCast_nonneg _
    by_cases hlt : s < n.S
    · have t1 : (s : Int) < (n.S : Int) := by omega
      have HLT := Lib.hid hlt
      have HSL := Lib.hid hs
      clear hs hlt
      go_wp2_with fail
      go_loopw [18, 19, 20, 21, 22, 69, 70, 71, 72, 73, 74, 75, 76, 77, 78, 79, 80, 81, 82, 83, 84, 85, 86, 87, 88, 89, 90, 91, 92, 93, 94, 95, 96, 97, 98, 99, 100, 101, 102, 103] (fun d k _ _ _ _ _ _ _ _ _ _ _ _ _ _ _ _ _ _ _ _ _ _ _ _ _ _ _ _ _ _ _ _ _ _ _ _ _ _ wr => ∃ k' : Nat, k' ≤ n.K ∧ k = .int .i64 k' ∧ Hid (Bld ws.heap.size wr d k' (fun _ => 228) (datZ n.K Z s)) ∧ Hid (Ch (fun _ => False) ws wr)) (fun _ k _ _ _ _ _ _ _ _ _ _ _ _ _ _ _ _ _ _ _ _ _ _ _ _ _ _ _ _ _ _ _ _ _ _ _ _ _ _ _ => n.K - (intOf k).toNat)
      case atStart => exact ⟨0, Nat.zero_le _, rfl, Lib.hid (Bld.nil _ _ _ _), Lib.hid (Ch.refl _ _)⟩
      case round =>
        obtain ⟨k, hk, rfl, HBL, HCK⟩ := hrel
        obtain ⟨wk, rfl⟩ : ∃ wk, wk = wr := ⟨_, rfl⟩
        clear x0 x1 x2 x3
        obtain ⟨x0, x1, x2, x3⟩ := HXC.out _ (HC12.out.trans (HCS.out.trans HCK.out))
        have u0 : (0 : Int) ≤ (k : Int) := Int.natCast_nonneg _
        by_cases hlk : k < n.K
        · have u1 : (k : Int) < (n.K : Int) := by omega
          have HLK := Lib.hid hlk
          obtain ⟨g, hg⟩ : ∃ g, g = wk.heap.size := ⟨_, rfl⟩
          have HFL := Lib.hid (FilV.start wk 228 (datZ n.K Z s k))
          rw [← hg] at HFL
          have hmk := HMK.out
          go_wp2_with fail
          rw [← hg]
          clear hmk hg
          go_loopw [21, 22, 76, 77, 78, 79, 80, 81, 82, 83, 84, 85, 86, 87, 88, 89, 90, 91, 92, 93, 94, 95, 96, 97, 98, 99] (fun i _ _ _ _ _ _ _ _ _ _ _ _ _ _ _ _ _ _ _ _ _ _ _ _ _ wr => ∃ i' : Nat, i' ≤ 228 ∧ i = .int .i64 i' ∧ Hid (FilV wk wr g 228 i' (datZ n.K Z s k))) (fun i _ _ _ _ _ _ _ _ _ _ _ _ _ _ _ _ _ _ _ _ _ _ _ _ _ _ => 228 - (intOf i).toNat)
          case atStart => exact ⟨0, Nat.zero_le _, rfl, HFL⟩
          case round =>
            obtain ⟨i, hi, rfl, HI⟩ := hrel
            have hcw := HCS.out.trans (HCK.out.trans HI.out.ch)
            clear x0 x1 x2 x3
            obtain ⟨x0, x1, x2, x3⟩ := HXC.out _ (HC12.out.trans hcw)
            have v0' : (0 : Int) ≤ (i : Int) := Int.natCast_nonneg _
            by_cases hli : i < 228
            · have v1' : (i : Int) < 228 := by omega
              have haw := at_wrap (s := s) (K := n.K) (k := k) (i := i) (by omega) (by omega) (by omega) (by omega)
              obtain ⟨q, hq⟩ : ∃ q, q = (s * n.K + k) * 228 + i := ⟨_, rfl⟩
              rw [← hq] at haw
              have HAW := Lib.hid haw
              have HQ : Hid (datZ n.K Z s k i = Z q) := Lib.hid (by rw [hq]; rfl)
              have HBW := Lib.hid (HB.out.gr (HC.out.trans hcw))
              clear haw hq hcw
              go_upto_region 19 with fail
              rw [HAW.out]
              by_cases hlq : q < l
              · have q1 : (q : Int) < (l : Int) := by omega
                have q0 : (0 : Int) ≤ (q : Int) := Int.natCast_nonneg _
                obtain ⟨b, o, hA, hcb⟩ := HBW.out.at (by omega)
                have cb := hcb q hlq
                have cg : wr.cell? ⟨g, i, none⟩ = some (.int .u8 0) := by
                  have h := HI.out.row.cell hli
                  rw [if_neg (Nat.lt_irrefl _)] at h
                  exact h
                have fg : wr.frozen? ⟨g, i, none⟩ = false := HI.out.row.frozen i
                have HPU : Hid (FilV wk (wr.setCell ⟨g, i, none⟩ (.int .u8 (z q : Int))) g 228 (i + 1) (datZ n.K Z s k)) := Lib.hid (by
                  have h := HI.out.put
                  rw [HQ.out, HZP.out, if_pos hlq] at h
                  exact h)
                subst hA
                clear hcb
                go_wp2_with fail
                go_roundw
                case rel => exact ⟨i + 1, by omega, by go_num, HPU⟩
                case measure => simp [intOf]; omega
              · have q1 : ¬ (q : Int) < (l : Int) := by omega
                have HPU : Hid (FilV wk wr g 228 (i + 1) (datZ n.K Z s k)) := Lib.hid (HI.out.skip (by rw [HQ.out, HZP.out, if_neg hlq]))
                go_wp2_with fail
                go_roundw
                case rel => exact ⟨i + 1, by omega, by go_num, HPU⟩
                case measure => simp [intOf]; omega
            · have hie : i = 228 := by omega
              have v1' : ¬ (i : Int) < 228 := by omega
              rw [hie] at HI
              have hrow := HI.out.done (by omega) (fun c _ => datZ_b HZB.out s k c)
              have hgs : g < wr.heap.size := blk_lt HI.out.row.choose_spec.1
              have hkw := HCK.out.size
              obtain ⟨g2, cap, w4, hr4, hb4, hc4⟩ := bld_app (w0 := ws) (base := ws.heap.size) (x := .slice (some ⟨g, 0, none⟩) 228 228) (Bld.ch HBL.out HI.out.ch) (Nat.le_refl _) (Nat.le_trans hkw HI.out.ch.size) (HCK.out.trans HI.out.ch) hrow (fun b hb => by
                have e : g = b := by simpa [Value.ownBlock] using hb
                subst e
                refine ⟨hgs, fun q => ?_, Far.row HI.out.row (Nat.le_trans hkw HI.out.lo)⟩
                obtain ⟨xs, h1, _⟩ := HBL.out
                have := (World.ownsRow.lt h1 g q).2
                have := HI.out.lo
                omega) (by omega)
              obtain ⟨k', hk'⟩ : ∃ k', k' = k + 1 := ⟨_, rfl⟩
              obtain ⟨wq, hwq⟩ : ∃ wq, wq = wr.alloc (.cells #[.slice (some ⟨g, 0, none⟩) 228 228] /-t-/24) := ⟨_, rfl⟩
              obtain ⟨Xs, hXs⟩ : ∃ Xs, Xs = wr.heap.size := ⟨_, rfl⟩
              rw [← hk', ← hwq, ← hXs] at hr4
              rw [← hk'] at hb4
              have HAP := Lib.hid hr4
              have HWQ := Lib.hid hwq
              have HXS := Lib.hid hXs
              have HB4 := Lib.hid hb4
              have HC4 := Lib.hid hc4
              have HK' := Lib.hid hk'
              clear hrow hgs hkw hr4 hb4 hc4 hk' hwq hXs hie hi
              go_wp2_with (first
                | (at_builtin; rw [← HWQ.out, ← HXS.out]; refine wpList_appB _ rfl (.tmp 100) (.tmp 102) rfl rfl _ _ (.slice (some ⟨g2, 0, none⟩) k' cap) w4 rfl rfl (by exact HAP.out) ?_)
                | fail)
              go_roundw
              case rel => exact ⟨k', by have := HLK.out; have := HK'.out; omega, by rw [HK'.out]; go_num, HB4, HC4⟩
              case measure => have := HLK.out; simp [intOf]; omega
        · have hke : k = n.K := by omega
          have u1 : ¬ (k : Int) < (n.K : Int) := by omega
          rw [hke] at HBL
          have hk2 := HN.out.k2
          have hm2 := HN.out.m2
          have hEN := rencode_new _ n.K n.M (fun _ => 228) (datZ n.K Z s) wk (HBL.out.mat (by omega)) (may_const HN.out.k1 (by omega) (by omega) (by omega)) (by omega)
          have HEN := Lib.hid hEN
          have HLL := HLT.out
          clear hke hEN hk
          go_wp2_with fail
          refine HEN.out.mono ?_
          rintro e w3 ⟨u, rfl, hbu, hc3⟩
          obtain ⟨ys, hys, _⟩ := id HBL.out
          obtain ⟨v4, w4, hJ⟩ := bld_join (BldL.ch HBL.out hc3) hbu (Nat.le_trans HCK.out.size hc3.size) (by omega) (fun q hq => (World.ownsRow.lt hys q hq).2) HCK.out.size
          have hc4 := Joins.ch hJ (HCK.out.trans hc3) (fun q hq => (World.ownsRow.lt hys q hq).1)
          obtain ⟨hr4, hb4, _⟩ := hJ
          have ej : jn n.K (fun _ => 228) (fun _ => 228) = fun _ => 228 := funext (jn_const n.K 228)
          have hm4 : MatX w4 (fun i => ws.heap.size ≤ i ∧ i < w4.heap.size) v4 n.q (fun _ => 228) (sharesZ n.K (datZ n.K Z s)) := matX_of (n := n.q) hb4 (Nat.lt_of_lt_of_le (Nat.succ_pos 1) HN.out.q1) (fun r _ => jn_const n.K 228 r) (fun r c _ _ => shares_join (datZ_b HZB.out s) r c)
          obtain ⟨b4, o4, C4, rfl, _⟩ := id hm4
          obtain ⟨A4, hA4⟩ : ∃ A4, A4 = some (⟨b4, o4, none⟩ : Addr) := ⟨_, rfl⟩
          rw [← hA4] at hm4 hr4
          clear hA4
          obtain ⟨X, hX⟩ : ∃ X, X = fun i => ws.heap.size ≤ i ∧ i < w4.heap.size := ⟨_, rfl⟩
          rw [← hX] at hm4
          have HXX := Lib.hid hX
          clear hX
          have HR4 := Lib.hid hr4
          clear hys hbu hb4 ej hr4 x0 x1 x2 x3
          obtain ⟨x0, x1, x2, x3⟩ := HXC.out _ (HC12.out.trans (HCS.out.trans hc4))
          have HFS := Lib.hid (HF2.out s w4 HLT.out)
          have HM4 := Lib.hid hm4
          have HC4 := Lib.hid hc4
          clear hm4 hc4 hc3
          go_wp2_with (first
            | (at_builtin; refine wpList_rows_of _ rfl (.tmp 111) (.tmp 112) rfl rfl _ u (.slice A4 n.q C4) w4 rfl rfl HR4.out ?_)
            | fail)
          refine HFS.out.mono ?_
          rintro e w5 ⟨rfl, hc5⟩
          obtain ⟨at0, hat⟩ : ∃ at0, at0 = frsN n a s := ⟨_, rfl⟩
          rw [← hat]
          have hfl := frsN_lt HN.out HA.out HLT.out (i := 0) (by have := HN.out.q1; omega)
          have htt := HN.out.tot2
          have ha0 : (0 : Int) ≤ (at0 : Int) := Int.natCast_nonneg _
          have ha1 : (at0 : Int) ≤ 2564 := by omega
          have hq0 : (0 : Int) ≤ (n.q : Int) := Int.natCast_nonneg _
          have hq1 : (n.q : Int) ≤ 24 := by have := HN.out.q2; omega
          have HAT := Lib.hid hat
          have HMW := Lib.hid (matX_ch HM4.out hc5 (fun _ _ f => f))
          have HP5 : Hid (∃ St, PutsO w2 w5 _ (s * n.q + 0) f St) := Lib.hid (by
            obtain ⟨St, h⟩ := HP.out
            exact ⟨St, by rw [Nat.add_zero]; exact h.gr (HC4.out.trans hc5)⟩)
          have HVX : Hid (∀ q, (Value.ownBlock _) = some q → ¬ X q) := Lib.hid (fun q hq hx => by
            obtain ⟨St, h⟩ := HP.out
            rw [HXX.out] at hx
            obtain ⟨_, c, hc⟩ := own_at h.own hq
            have := blk_lt hc
            omega)
          have HC5 := Lib.hid (HCS.out.trans (HC4.out.trans hc5))
          have HSZ5 := Lib.hid hc5.size
          clear hat hfl htt hc5 x0 x1 x2 x3 HM4 HR4 HFS HEN
          go_wp2_with fail
          go_loopw [16, 28, 29, 30, 121, 122, 123, 124, 125, 126, 127, 128, 129, 130, 131, 132, 133, 134, 135, 136, 137, 138, 139, 140, 141, 142, 143, 144, 145, 146, 147, 148, 149] (fun v i _ _ _ _ _ _ _ _ _ _ _ _ _ _ _ _ _ _ _ _ _ _ _ _ _ _ _ _ _ _ _ wr => ∃ i' : Nat, i' ≤ n.q ∧ i = .int .i64 i' ∧ Hid (∃ St, PutsO w2 wr v (s * n.q + i') f St) ∧ Hid (MatX wr X (.slice A4 n.q C4) n.q (fun _ => 228) (sharesZ n.K (datZ n.K Z s)) ∧ X = X ∧ ∀ q, v.ownBlock = some q → ¬ X q) ∧ Hid (w4.heap.size ≤ wr.heap.size)) (fun _ i _ _ _ _ _ _ _ _ _ _ _ _ _ _ _ _ _ _ _ _ _ _ _ _ _ _ _ _ _ _ _ _ => n.q - (intOf i).toNat)
          case atStart => exact ⟨0, Nat.zero_le _, rfl, HP5, Lib.hid ⟨HMW.out, rfl, HVX.out⟩, HSZ5⟩
          case round =>
            obtain ⟨i, hi, rfl, HQ, HW, HSZ⟩ := hrel
            have i0 : (0 : Int) ≤ (i : Int) := Int.natCast_nonneg _
            by_cases hli : i < n.q
            · have i1 : (i : Int) < (n.q : Int) := by omega
              obtain ⟨b, o, C1, e4, _, hrw⟩ := HW.out.1
              injection e4 with hA _ hC1
              subst hC1
              obtain ⟨A', C', c1, hrow, _⟩ := hrw i hli
              have c1 : wr.cell? ⟨b, o + i, none⟩ = some (.slice A' 228 C') := c1
              have hrow : RowV wr (.slice A' 228 C') 228 (sharesZ n.K (datZ n.K Z s) i) := hrow
              subst hA
              have hmy := shr_may (V := .slice A' 228 C') (Z := Z) HN.out HA.out HLT.out hli HARG.out.1 HARG.out.2.1 HARG.out.2.2
              have hn6 : sealN (shrK vol ep no n a Z (.slice A' 228 C') s i) = 256 := by unfold sealN; rw [hmy]; rfl
              have he6 : sealE (shrK vol ep no n a Z (.slice A' 228 C') s i) = 0 := by
                rw [sealE_may] at hmy
                exact of_decide_eq_true hmy
              have hnum := (mayB_iff.1 hmy).1
              have HSE : Hid (Calls Tryz.prog 41 #[.agg #[.int .i64 4, .int .i64 vol, .int .i64 ((at0 : Int) + (i : Int)), .int .i64 ep, .int .i64 no, .slice A' 228 C']] wr (SealPost (shrK vol ep no n a Z (.slice A' 228 C') s i) wr)) := Lib.hid (by
                rw [HAT.out]
                exact rsealB_any (shrK vol ep no n a Z (.slice A' 228 C') s i) A' C' wr rfl ⟨⟨by show -9223372036854775808 ≤ (4 : Int); omega, by show (4 : Int) ≤ _; omega⟩, ⟨by have := hnum.vol; omega, by have := hnum.vol; omega⟩, ⟨by have := hnum.addr; omega, by have := hnum.addr; omega⟩, ⟨by have := hnum.epoch; omega, by have := hnum.epoch; omega⟩, ⟨by have := hnum.seq; omega, by have := hnum.seq; omega⟩, hrow⟩)
              have HN6 := Lib.hid hn6
              have HE6 := Lib.hid he6
              have HLI := Lib.hid hli
              clear hmy hn6 he6 hnum hrow
              go_wp2_with fail
              refine HSE.out.mono ?_
              rintro e w6 ⟨A6, C6, rfl, ho6, hc6⟩
              rw [HN6.out] at ho6
              rw [HN6.out, HE6.out]
              obtain ⟨St, hSt⟩ := HQ.out
              have hby : Bytes 256 (sectZ (shrK vol ep no n a Z undef s i)) := sectZ_b (fun c _ => shares_b n.K (datZ n.K Z s) i c) 256
              rw [sect_V] at ho6
              obtain ⟨sb, rfl, hob⟩ := own_new (w := w2) ho6 (by omega) (by omega) hby hSt.ch.size
              have hfk : f (s * n.q + i) = ⟨(at0 : Int) + (i : Int), 256, sectZ (shrK vol ep no n a Z undef s i)⟩ := by rw [HFF.out, HAT.out]; exact snpP_at vol ep no n a Z hli
              have hkk : s * n.q + i ≤ 1048576 := by
                have h1 : s * n.q ≤ 32 * 24 := Nat.mul_le_mul (by have := HLT.out; have := HN.out.s2; omega) HN.out.q2
                have := HN.out.q2
                omega
              obtain ⟨g2, cap, w7, hr7, hs7, hk7, hg7⟩ := (hSt.gr hc6).app2 (u := .slice (some ⟨sb, 0, none⟩) 256 C6) (by rw [hfk]; exact hob) hkk
              rw [hfk] at hr7
              have hr7 : (Builtin.append_ #[ 30, 30] 30 #[_, .slice (some ⟨w6.heap.size, 0, none⟩) 1 1]).run Tryz.prog (w6.alloc (.cells #[.int .i64 ((at0 : Int) + (i : Int)), .slice (some ⟨sb, 0, none⟩) 256 C6] 35)) = _ := hr7
              have HSL := Lib.hid (slice_put w6 (.int .i64 ((at0 : Int) + (i : Int))) (.slice (some ⟨sb, 0, none⟩) 256 C6))
              obtain ⟨wq, hwq⟩ : ∃ wq, wq = w6.alloc (.cells #[.int .i64 ((at0 : Int) + (i : Int)), .slice (some ⟨sb, 0, none⟩) 256 C6] 35) := ⟨_, rfl⟩
              obtain ⟨X6, hX6⟩ : ∃ X6, X6 = w6.heap.size := ⟨_, rfl⟩
              obtain ⟨N7, hN7⟩ : ∃ N7, N7 = s * n.q + i + 1 := ⟨_, rfl⟩
              rw [← hwq, ← hX6, ← hN7] at hr7
              rw [← hwq, ← hX6] at HSL
              rw [← hN7] at hs7
              have hsz6 := hc6.size
              have hk7s := hk7.size
              have HW7 : Hid (MatX w7 X _ n.q (fun _ => 228) (sharesZ n.K (datZ n.K Z s)) ∧ X = X ∧ ∀ q, (Value.slice (some ⟨g2, 0, none⟩) N7 cap).ownBlock = some q → ¬ X q) := Lib.hid ⟨matX_ch (matX_ch HW.out.1 hc6 (fun _ _ f => f)) hk7 (fun i hi q => HW.out.2.2 i q hi), rfl, fun q hq => by
                have e : g2 = q := by simpa [Value.ownBlock] using hq
                subst e
                rcases hg7 with e | e
                · exact HW.out.2.2 _ e
                · intro hx
                  rw [HXX.out] at hx
                  have := HSZ.out
                  omega⟩
              have HSZ7 := Lib.hid (Nat.le_trans HSZ.out (Nat.le_trans hsz6 hk7s))
              have HRUN := Lib.hid hr7
              have HS7 : Hid (∃ S, PutsO w2 w7 (.slice (some ⟨g2, 0, none⟩) N7 cap) (s * n.q + (i + 1)) f S) := Lib.hid ⟨_, by rw [← Nat.add_assoc, ← hN7]; exact hs7⟩
              clear hr7 hs7 hk7 hg7 hsz6 hk7s hwq hX6 hN7 hkk hfk hob hby ho6 hc6 hSt
              go_wp2_with (first
                | ((with_reducible refine wpList_isOp (.buildSlice 30 1 #[(0, .tmp 147)]) rfl ?_); refine wpList_slicing1 _ wq rfl 30 0 1 (.tmp 147) rfl (.agg #[.int .i64 ((at0 : Int) + (i : Int)), .slice (some ⟨sb, 0, none⟩) 256 C6]) (.slice (some ⟨X6, 0, none⟩) 1 1) rfl (by exact HSL.out) ?_)
                | ((with_reducible refine wpList_isOp (.call { callee := .builtin .append, args := #[.tmp 142, .tmp 148], argTypes := #[ 30, 30] }) rfl ?_); refine wpList_appP _ rfl (.tmp 142) (.tmp 148) rfl rfl _ (.slice (some ⟨X6, 0, none⟩) 1 1) (.slice (some ⟨g2, 0, none⟩) N7 cap) w7 rfl rfl (by exact HRUN.out) ?_)
                | fail)
              go_roundw
              case rel => exact ⟨i + 1, HLI.out, by go_num, HS7, HW7, HSZ7⟩
              case measure => have := HLI.out; simp [intOf]; omega
            · have hie : i = n.q := by omega
              have i1 : ¬ (i : Int) < (n.q : Int) := by omega
              have HPN : Hid (∃ St, PutsO w2 wr _ ((s + 1) * n.q) f St) := Lib.hid (by
                obtain ⟨St, h⟩ := HQ.out
                have e : s * n.q + i = (s + 1) * n.q := by rw [Nat.succ_mul, hie]
                rw [e] at h
                exact ⟨St, h⟩)
              clear hie
              go_wp2
              go_roundw
              case rel => exact ⟨s + 1, HLT.out, by go_num, HPN⟩
              case measure => have := HLT.out; simp [intOf]; omega
    · have hse : s = n.S := by omega
      have t1 : ¬ (s : Int) < (n.S : Int) := by omega
      obtain ⟨St, hSt⟩ := HP.out
      rw [hse] at hSt
      have HFIN := Lib.hid (hSt.low HC.out)
      clear hse hSt
      go_wp2
      go_ret2
      exact ⟨_, St, rfl, HFIN.out⟩
set_option maxHeartbeats 3200000 in
theorem rputs_long (A : Option Addr) (l C : Nat) (vol ep no : Int) (n : Gn) (a : Nat) (w : World) (hn : n.Ok) (ha : a ≤ 1) (hv : 0 ≤ vol ∧ vol ≤ 4294967295) (he : 0 ≤ ep ∧ ep ≤ 4294967295) (ho : 0 ≤ no ∧ no ≤ 4294967295) (hl : n.S * n.K * 228 < l) (hl2 : l ≤ 140737488351232) :
    Calls Tryz.prog 14 #[.int .i64 vol, .agg (geC n.ge), .int .i64 (a : Int), .int .i64 ep, .int .i64 no, .slice A l C] w (ErrPost 2 w) := by
  obtain ⟨w1, H, hR⟩ := geR w n.ge
  have HR := Lib.hid hR
  have HX := Lib.hid hR.x
  have HXC : Hid (∀ w' : World, Ch (fun _ => False) w1 w' → w'.cell? ⟨H, 0, none⟩ = some (.int .i64 (n.W : Int)) ∧ w'.cell? ⟨H, 1, none⟩ = some (.int .i64 (n.S : Int)) ∧ w'.cell? ⟨H, 2, none⟩ = some (.int .i64 (n.K : Int)) ∧ w'.cell? ⟨H, 3, none⟩ = some (.int .i64 (n.M : Int))) := Lib.hid fun w' k => (hR.x.gr k).all
  have HF := Lib.hid (rfirst_yes n a 0 w1 hn ha (by have := hn.s1; omega))
  have HF2 : Hid (∀ (s : Nat) (w : World), s < n.S → Calls Tryz.prog 12 #[.agg (geC n.ge), .int .i64 (a : Int), .int .i64 (s : Int)] w (Ans (.tuple #[.int .i64 (frsN n a s : Int), .int .i64 0]) w)) := Lib.hid fun s w hs => rfirst_yes n a s w hn ha hs
  have HV := Lib.hid (fun w => w12_any vol w)
  have HE := Lib.hid (fun w => w12_any ep w)
  have HNO := Lib.hid (fun w => w12_any no w)
  rw [decide_eq_true hv] at HV
  rw [decide_eq_true he] at HE
  rw [decide_eq_true ho] at HNO
  have hroom : wrap64 (wrap64 ((n.S : Int) * (n.K : Int)) * 228) < (l : Int) := by
    have e : wrap64 (wrap64 ((n.S : Int) * (n.K : Int)) * 228) = ((n.S * n.K * 228 : Nat) : Int) := snp_room hn
    rw [e]
    omega
  have HRM := Lib.hid hroom
  clear hR hn ha hv he ho hl hl2 hroom HF2
  obtain ⟨x0, x1, x2, x3⟩ := HXC.out _ (Ch.refl _ _)
  go_enter Tryz.func14, Tryz.ntmps14
  go_wp2_with (first | ((with_reducible refine wpList_isOp (.box 23 (.tmp 1)) rfl ?_); refine wpList_boxing _ w1 rfl 23 (.tmp 1) rfl (geC n.ge) H rfl (by exact HR.out.sz) (by exact HR.out.al) ?_) | fail)
  refine HF.out.mono ?_
  rintro e w2 ⟨rfl, hc2⟩
  have HC := Lib.hid (HR.out.ch.trans hc2)
  clear x0 x1 x2 x3
  obtain ⟨x0, x1, x2, x3⟩ := HXC.out _ hc2
  clear hc2 HF
  go_wp2_with fail
  refine (HV.out _).mono ?_
  rintro e w3 ⟨rfl, rfl⟩
  go_wp2_with fail
  refine (HE.out _).mono ?_
  rintro e w3 ⟨rfl, rfl⟩
  go_wp2_with fail
  refine (HNO.out _).mono ?_
  rintro e w3 ⟨rfl, rfl⟩
  have hroom := HRM.out
  clear HV HE HNO
  go_wp2
  go_ret2
  exact ⟨rfl, HC.out⟩
end Go.Proofs.YtlbdopcchoklhaaGreat

namespace Go.Proofs.YtlbdopcchoklhaaGreat
open Go.RowKit
set_option linter.unusedVariables false
set_option maxRecDepth 100000
set_option linter.unusedSimpArgs false
attribute [local go_sem] Oper.semAt_some wide_fn wide_depth

set_option maxHeartbeats 3200000 in
theorem sputs_no (A : Option Addr) (l C : Nat) (vol : Int) (g : Ge) (a ep no : Int) (w : World) (h : ptsB vol g a ep no = false) : Calls Tryz.prog 13 #[.int .i64 vol, .agg (geC g), .int .i64 a, .int .i64 ep, .int .i64 no, .slice A l C] w (ErrPost 1 w) := by
  obtain ⟨w2, H, w6, Bv, Be, Bn, R, E, hR, ⟨e1, e2, e3, e4, e5⟩, hw6, hV⟩ := puV w vol ep no g
  have HR := Lib.hid hR
  have HV := Lib.hid hV
  have HQ := Lib.hid (And.intro e1 (And.intro e2 (And.intro e3 (And.intro e4 (And.intro e5 hw6)))))
  have HM := Lib.hid (fun w => snmay_any vol g a 0 ep no w)
  rw [show smayB vol g a 0 ep no = false from h] at HM
  clear hR hV e1 e2 e3 e4 e5 hw6 h
  go_enter Tryz.func13, Tryz.ntmps13
  go_upto_region 1 with (first | ((with_reducible refine wpList_isOp (.box 23 (.tmp 1)) rfl ?_); refine wpList_boxing _ w2 rfl 23 (.tmp 1) rfl (geC g) H rfl (by exact HR.out.sz) (by exact HR.out.al) ?_) | fail)
  obtain ⟨e1, e2, e3, e4, e5, hw6⟩ := HQ.out
  rw [← hw6, ← e5, ← e4, ← e3, ← e2, ← e1]
  clear e1 e2 e3 e4 e5 hw6
  have c1 : w6.cell? ⟨Bv, 0, none⟩ = some (.int .i64 vol) := blk_cell HV.out.v
  have c2 : w6.cell? ⟨H, 0, none⟩ = some (.int .i64 g.wal) := blk_cell HV.out.h
  have c3 : w6.cell? ⟨H, 1, none⟩ = some (.int .i64 g.st) := blk_cell HV.out.h
  have c4 : w6.cell? ⟨H, 2, none⟩ = some (.int .i64 g.k) := blk_cell HV.out.h
  have c5 : w6.cell? ⟨H, 3, none⟩ = some (.int .i64 g.m) := blk_cell HV.out.h
  have c6 : w6.cell? ⟨Be, 0, none⟩ = some (.int .i64 ep) := blk_cell HV.out.e
  have c7 : w6.cell? ⟨Bn, 0, none⟩ = some (.int .i64 no) := blk_cell HV.out.n
  go_wp2_with fail
  refine (HM.out _).mono ?_
  rintro e w7 ⟨rfl, hc7⟩
  have HV7 := Lib.hid (HV.out.gr hc7)
  have c8 : w7.cell? ⟨R, 0, none⟩ = some (.slice none 0 0) := blk_cell HV7.out.r
  have c9 : w7.cell? ⟨E, 0, none⟩ = some (.int .i64 0) := blk_cell HV7.out.x
  have f8 : w7.frozen? ⟨R, 0, none⟩ = false := blk_frozen HV7.out.r
  have f9 : w7.frozen? ⟨E, 0, none⟩ = false := blk_frozen HV7.out.x
  have HF := Lib.hid (HV7.out.fail 1)
  have n1 : ¬ R = E := by have := HV7.out.ord; omega
  have n2 : ¬ E = R := by have := HV7.out.ord; omega
  clear hc7 c1 c2 c3 c4 c5 c6 c7
  go_wp2
  exact bodyPost_ret (results_pts Tryz.results13 _ _ R E _ 1 rfl rfl HF.out.2.1 HF.out.2.2) rfl HF.out.1
set_option maxHeartbeats 3200000 in
theorem sputs_long (A : Option Addr) (l C : Nat) (vol ep no : Int) (n : Gn) (a : Nat) (w : World) (hn : n.Ok) (ha : a ≤ 1) (hv : 0 ≤ vol ∧ vol ≤ 4294967295) (he : 0 ≤ ep ∧ ep ≤ 4294967295) (ho : 0 ≤ no ∧ no ≤ 4294967295) (hl : n.S * n.K * 228 < l) (hl2 : l ≤ 140737488351232) :
    Calls Tryz.prog 13 #[.int .i64 vol, .agg (geC n.ge), .int .i64 (a : Int), .int .i64 ep, .int .i64 no, .slice A l C] w (ErrPost 2 w) := by
  obtain ⟨w2, H, w6, Bv, Be, Bn, R, E, hR, ⟨e1, e2, e3, e4, e5⟩, hw6, hV⟩ := puV w vol ep no n.ge
  have HR := Lib.hid hR
  have HV := Lib.hid hV
  have HQ := Lib.hid (And.intro e1 (And.intro e2 (And.intro e3 (And.intro e4 (And.intro e5 hw6)))))
  have HM := Lib.hid (fun w => snmay_any vol n.ge (a : Int) 0 ep no w)
  rw [pts_may hn ha hv he ho] at HM
  have HRM := Lib.hid (fun w => room_any n.ge w)
  rw [room_ge hn] at HRM
  obtain ⟨T, hT⟩ : ∃ T, T = n.S * n.K * 228 := ⟨_, rfl⟩
  rw [← hT] at HRM hl
  have t1 : (T : Int) < (l : Int) := by omega
  clear hR hV e1 e2 e3 e4 e5 hw6 hn ha hv he ho hl hT
  go_enter Tryz.func13, Tryz.ntmps13
  go_upto_region 1 with (first | ((with_reducible refine wpList_isOp (.box 23 (.tmp 1)) rfl ?_); refine wpList_boxing _ w2 rfl 23 (.tmp 1) rfl (geC n.ge) H rfl (by exact HR.out.sz) (by exact HR.out.al) ?_) | fail)
  obtain ⟨e1, e2, e3, e4, e5, hw6⟩ := HQ.out
  rw [← hw6, ← e5, ← e4, ← e3, ← e2, ← e1]
  clear e1 e2 e3 e4 e5 hw6
  have c1 : w6.cell? ⟨Bv, 0, none⟩ = some (.int .i64 vol) := blk_cell HV.out.v
  have c2 : w6.cell? ⟨H, 0, none⟩ = some (.int .i64 (n.W : Int)) := blk_cell HV.out.h
  have c3 : w6.cell? ⟨H, 1, none⟩ = some (.int .i64 (n.S : Int)) := blk_cell HV.out.h
  have c4 : w6.cell? ⟨H, 2, none⟩ = some (.int .i64 (n.K : Int)) := blk_cell HV.out.h
  have c5 : w6.cell? ⟨H, 3, none⟩ = some (.int .i64 (n.M : Int)) := blk_cell HV.out.h
  have c6 : w6.cell? ⟨Be, 0, none⟩ = some (.int .i64 ep) := blk_cell HV.out.e
  have c7 : w6.cell? ⟨Bn, 0, none⟩ = some (.int .i64 no) := blk_cell HV.out.n
  go_wp2_with fail
  refine (HM.out _).mono ?_
  rintro e w7 ⟨rfl, hc7⟩
  have HV7 := Lib.hid (HV.out.gr hc7)
  clear hc7 c1 c2 c3 c4 c5 c6 c7
  have c1 : w7.cell? ⟨Bv, 0, none⟩ = some (.int .i64 vol) := blk_cell HV7.out.v
  have c2 : w7.cell? ⟨H, 0, none⟩ = some (.int .i64 (n.W : Int)) := blk_cell HV7.out.h
  have c3 : w7.cell? ⟨H, 1, none⟩ = some (.int .i64 (n.S : Int)) := blk_cell HV7.out.h
  have c4 : w7.cell? ⟨H, 2, none⟩ = some (.int .i64 (n.K : Int)) := blk_cell HV7.out.h
  have c5 : w7.cell? ⟨H, 3, none⟩ = some (.int .i64 (n.M : Int)) := blk_cell HV7.out.h
  have c6 : w7.cell? ⟨Be, 0, none⟩ = some (.int .i64 ep) := blk_cell HV7.out.e
  have c7 : w7.cell? ⟨Bn, 0, none⟩ = some (.int .i64 no) := blk_cell HV7.out.n
  go_wp2_with fail
  refine (HRM.out _).mono ?_
  rintro e w8 ⟨rfl, hc8⟩
  have HV8 := Lib.hid (HV7.out.gr hc8)
  have c8 : w8.cell? ⟨R, 0, none⟩ = some (.slice none 0 0) := blk_cell HV8.out.r
  have c9 : w8.cell? ⟨E, 0, none⟩ = some (.int .i64 0) := blk_cell HV8.out.x
  have f8 : w8.frozen? ⟨R, 0, none⟩ = false := blk_frozen HV8.out.r
  have f9 : w8.frozen? ⟨E, 0, none⟩ = false := blk_frozen HV8.out.x
  have HF := Lib.hid (HV8.out.fail 2)
  have n1 : ¬ R = E := by have := HV8.out.ord; omega
  have n2 : ¬ E = R := by have := HV8.out.ord; omega
  clear hc8 c1 c2 c3 c4 c5 c6 c7
  go_wp2
  exact bodyPost_ret (results_pts Tryz.results13 _ _ R E _ 2 rfl rfl HF.out.2.1 HF.out.2.2) rfl HF.out.1
end Go.Proofs.YtlbdopcchoklhaaGreat

namespace Go.Proofs.YtlbdopcchoklhaaGreat
open Go.RowKit
set_option linter.unusedVariables false
set_option maxRecDepth 100000
set_option linter.unusedSimpArgs false

theorem firsts (g : Ge) (a s : Int) : ∃ fv fe : Int, (∀ w, Calls Tryz.prog 11 #[.agg (geC g), .int .i64 a, .int .i64 s] w (Ans (.tuple #[.int .i64 fv, .int .i64 fe]) w)) ∧ (∀ w, Calls Tryz.prog 12 #[.agg (geC g), .int .i64 a, .int .i64 s] w (Ans (.tuple #[.int .i64 fv, .int .i64 fe]) w)) := by
  cases h : frsB g a s with
  | false => exact ⟨0, 1, fun w => sfirst_no g a s w h, fun w => rfirst_no g a s w h⟩
  | true =>
    obtain ⟨n, x, y, hn, rfl, rfl, rfl, hx, hy⟩ := frsB_nat h
    exact ⟨_, 0, fun w => sfirst_yes n x y w hn hx hy, fun w => rfirst_yes n x y w hn hx hy⟩
theorem both_puts (vol : Int) (g : Ge) (a ep no : Int) (A : Option Addr) (l C : Nat) (z : Nat → Nat) (w : World) (hb : RowV w (.slice A l C) l z) (hl : l ≤ 4000) :
    (∃ k : Int, k ≠ 0 ∧ ∀ w', Ch (fun _ => False) w w' → (Calls Tryz.prog 13 #[.int .i64 vol, .agg (geC g), .int .i64 a, .int .i64 ep, .int .i64 no, .slice A l C] w' (ErrPost k w')) ∧ (Calls Tryz.prog 14 #[.int .i64 vol, .agg (geC g), .int .i64 a, .int .i64 ep, .int .i64 no, .slice A l C] w' (ErrPost k w'))) ∨
    (∃ (N : Nat) (f : Nat → PutP), N ≤ 768 ∧ ∀ w', Ch (fun _ => False) w w' → (Calls Tryz.prog 13 #[.int .i64 vol, .agg (geC g), .int .i64 a, .int .i64 ep, .int .i64 no, .slice A l C] w' (PtsPost N f w')) ∧ (Calls Tryz.prog 14 #[.int .i64 vol, .agg (geC g), .int .i64 a, .int .i64 ep, .int .i64 no, .slice A l C] w' (PtsPost N f w'))) := by
  cases h : ptsB vol g a ep no with
  | false => exact Or.inl ⟨1, by decide, fun w' k => ⟨sputs_no A l C vol g a ep no w' h, rputs_no A l C vol g a ep no w' h⟩⟩
  | true =>
    have h' := h
    unfold ptsB at h'
    simp only [Bool.and_eq_true] at h'
    obtain ⟨n, x, y, hn, rfl, rfl, _, hx, _⟩ := frsB_nat h'.1
    have hv := wordB_iff.1 h'.2.1
    have he := wordB_iff.1 h'.2.2.1
    have ho := wordB_iff.1 h'.2.2.2
    by_cases hll : l ≤ n.S * n.K * 228
    · exact Or.inr ⟨n.S * n.q, _, hn.t2, fun w' k => ⟨sputs_yes A l C z vol ep no n x w' hn hx hv he ho hll (hb.gr k), rputs_yes A l C z vol ep no n x w' hn hx hv he ho hll (hb.gr k)⟩⟩
    · exact Or.inl ⟨2, by decide, fun w' k => ⟨sputs_long A l C vol ep no n x w' hn hx hv he ho (by omega) (by omega), rputs_long A l C vol ep no n x w' hn hx hv he ho (by omega) (by omega)⟩⟩
set_option maxHeartbeats 6400000 in
theorem snapPuts_short (vol : Int) (g : Ge) (a ep no : Int) (A : Option Addr) (l C : Nat) (s : Int) (w : World) (h : smlB g = false ∨ (smlB g = true ∧ (4000 : Int) < (l : Int))) : Calls Tryz.prog 3 #[.int .i64 vol, .agg (geC g), .int .i64 a, .int .i64 ep, .int .i64 no, .slice A l C, .int .i64 s] w (Told w) := by
  obtain ⟨w1, H, hR⟩ := geR w g
  obtain ⟨x0, x1, x2, x3⟩ := hR.x
  have HR := Lib.hid hR
  have HX := Lib.hid hR.x
  have HUP := Lib.hid (fun w => snawake_any w)
  have HSM := Lib.hid (fun w => small12_any g w)
  obtain ⟨sm, hsm⟩ : ∃ sm, sm = smlB g := ⟨_, rfl⟩
  rw [← hsm] at HSM h
  clear hR hsm
  go_enter Tryz.func3, Tryz.ntmps3
  go_wp2_with (first | ((with_reducible refine wpList_isOp (.box 23 (.tmp 1)) rfl ?_); refine wpList_boxing _ w1 rfl 23 (.tmp 1) rfl (geC g) H rfl (by exact HR.out.sz) (by exact HR.out.al) ?_) | fail)
  refine (HUP.out _).mono ?_
  rintro e w2 ⟨rfl, hc2⟩
  have HC2 := Lib.hid (HR.out.ch.trans hc2)
  clear x0 x1 x2 x3
  obtain ⟨x0, x1, x2, x3⟩ := HX.out.gr hc2
  clear hc2
  go_wp2_with fail
  refine (HSM.out _).mono ?_
  rintro e w3 ⟨rfl, hc3⟩
  have HC3 := Lib.hid (HC2.out.trans hc3)
  clear hc3 x0 x1 x2 x3
  rcases h with rfl | ⟨rfl, hl⟩
  · go_wp2
    go_ret
    exact ⟨rfl, HC3.out⟩
  · go_wp2
    go_ret
    exact ⟨rfl, HC3.out⟩
set_option maxHeartbeats 12800000 in
theorem snapPuts_long (vol : Int) (g : Ge) (a ep no : Int) (A : Option Addr) (l C : Nat) (z : Nat → Nat) (s : Int) (w : World) (hs : smlB g = true) (hl : l ≤ 4000) (hb : RowV w (.slice A l C) l z) : Calls Tryz.prog 3 #[.int .i64 vol, .agg (geC g), .int .i64 a, .int .i64 ep, .int .i64 no, .slice A l C, .int .i64 s] w (Told w) := by
  obtain ⟨w1, H, hR⟩ := geR w g
  obtain ⟨x0, x1, x2, x3⟩ := hR.x
  have HR := Lib.hid hR
  have HX := Lib.hid hR.x
  have HUP := Lib.hid (fun w => snawake_any w)
  have HSM := Lib.hid (fun w => small12_any g w)
  rw [hs] at HSM
  obtain ⟨fv, fe, hf1, hf2⟩ := firsts g a s
  have HF := Lib.hid (And.intro hf1 hf2)
  have HBP := Lib.hid (both_puts vol g a ep no A l C z w hb hl)
  have l0 : (0 : Int) ≤ (l : Int) := Int.natCast_nonneg _
  have l1 : ¬ (4000 : Int) < (l : Int) := by omega
  clear hR hf1 hf2 hb hs hl
  go_enter Tryz.func3, Tryz.ntmps3
  go_wp2_with (first | ((with_reducible refine wpList_isOp (.box 23 (.tmp 1)) rfl ?_); refine wpList_boxing _ w1 rfl 23 (.tmp 1) rfl (geC g) H rfl (by exact HR.out.sz) (by exact HR.out.al) ?_) | fail)
  refine (HUP.out _).mono ?_
  rintro e w2 ⟨rfl, hc2⟩
  have HC2 := Lib.hid (HR.out.ch.trans hc2)
  clear x0 x1 x2 x3
  obtain ⟨x0, x1, x2, x3⟩ := HX.out.gr hc2
  have HX2 := Lib.hid (HX.out.gr hc2)
  clear hc2
  go_wp2_with fail
  refine (HSM.out _).mono ?_
  rintro e w3 ⟨rfl, hc3⟩
  have HC3 := Lib.hid (HC2.out.trans hc3)
  clear x0 x1 x2 x3
  obtain ⟨x0, x1, x2, x3⟩ := HX2.out.gr hc3
  have HX3 := Lib.hid (HX2.out.gr hc3)
  clear hc3
  go_wp2_with fail
  refine (HF.out.1 _).mono ?_
  rintro e w4 ⟨rfl, hc4⟩
  have HC4 := Lib.hid (HC3.out.trans hc4)
  clear x0 x1 x2 x3 l1
  obtain ⟨x0, x1, x2, x3⟩ := HX3.out.gr hc4
  have HX4 := Lib.hid (HX3.out.gr hc4)
  clear hc4
  go_wp2_with fail
  refine (HF.out.2 _).mono ?_
  rintro e w5 ⟨rfl, hc5⟩
  have HC5 := Lib.hid (HC4.out.trans hc5)
  clear x0 x1 x2 x3
  obtain ⟨x0, x1, x2, x3⟩ := HX4.out.gr hc5
  have HX5 := Lib.hid (HX4.out.gr hc5)
  clear hc5
  rcases HBP.out with ⟨k, hk, hp⟩ | ⟨N, f, hN, hp⟩
  · have HP1 := Lib.hid (hp w5 HC5.out).1
    have HP2 := Lib.hid (fun w' (c : Ch (fun _ => False) w5 w') => (hp w' (HC5.out.trans c)).2)
    clear hp
    go_wp2_with fail
    refine HP1.out.mono ?_
    rintro e w6 ⟨rfl, hc6⟩
    have HC6 := Lib.hid (HC5.out.trans hc6)
    have HP3 := Lib.hid (HP2.out w6 hc6)
    clear x0 x1 x2 x3
    obtain ⟨x0, x1, x2, x3⟩ := HX5.out.gr hc6
    clear hc6
    go_wp2_with fail
    refine HP3.out.mono ?_
    rintro e w7 ⟨rfl, hc7⟩
    have HC7 := Lib.hid (HC6.out.trans hc7)
    clear hc7 x0 x1 x2 x3
    go_wp2_with fail
    go_loopw [14, 25, 26] (fun _ i _ wr => i = .int .i64 0 ∧ Hid (Ch (fun _ => False) w7 wr)) (fun _ _ _ _ => 0)
    case atStart => exact ⟨rfl, Lib.hid (Ch.refl _ _)⟩
    case round =>
      obtain ⟨rfl, HK⟩ := hrel
      go_wp2
      go_ret
      exact ⟨rfl, HC7.out.trans HK.out⟩
  · have HP1 := Lib.hid (hp w5 HC5.out).1
    have HP2 := Lib.hid (fun w' (c : Ch (fun _ => False) w5 w') => (hp w' (HC5.out.trans c)).2)
    have n0 : (0 : Int) ≤ (N : Int) := Int.natCast_nonneg _
    have n1 : (N : Int) ≤ 768 := by omega
    have HNN := Lib.hid hN
    clear hp hN
    go_wp2_with fail
    refine HP1.out.mono ?_
    rintro e w6 ⟨v1, S1, rfl, hp1⟩
    obtain ⟨A1, C1, rfl⟩ := hp1.len
    have HC6 := Lib.hid (HC5.out.trans hp1.ch)
    have HP3 := Lib.hid (HP2.out w6 hp1.ch)
    have HV1 := Lib.hid (hp1.read (by have := HNN.out; omega))
    clear x0 x1 x2 x3
    obtain ⟨x0, x1, x2, x3⟩ := HX5.out.gr hp1.ch
    clear hp1
    go_wp2_with fail
    refine HP3.out.mono ?_
    rintro e w7 ⟨v2, S2, rfl, hp2⟩
    obtain ⟨A2, C2, rfl⟩ := hp2.len
    have HC7 := Lib.hid (HC6.out.trans hp2.ch)
    have HW1 := Lib.hid (HV1.out.gr hp2.ch)
    have HW2 := Lib.hid (hp2.read (by have := HNN.out; omega))
    clear hp2 x0 x1 x2 x3 HV1
    go_wp2_with fail
    go_loopw [14, 25, 26, 96, 97, 98, 99, 100, 101, 102, 103, 104, 105, 106, 107, 108, 109, 110, 111, 112, 113, 114, 115, 116, 117, 118, 119, 120, 121, 122, 123, 124, 125, 126, 127] (fun _ i _ _ _ _ _ _ _ _ _ _ _ _ _ _ _ _ _ _ _ _ _ _ _ _ _ _ _ _ _ _ _ _ _ wr => ∃ k : Nat, k ≤ N ∧ i = .int .i64 k ∧ Hid (Ch (fun _ => False) w7 wr)) (fun _ i _ _ _ _ _ _ _ _ _ _ _ _ _ _ _ _ _ _ _ _ _ _ _ _ _ _ _ _ _ _ _ _ _ _ => N - (intOf i).toNat)
    case atStart => exact ⟨0, Nat.zero_le _, rfl, Lib.hid (Ch.refl _ _)⟩
    case round =>
      obtain ⟨k, hk, rfl, HK⟩ := hrel
      have k0 : (0 : Int) ≤ (k : Int) := Int.natCast_nonneg _
      by_cases hlt : k < N
      · have k1 : (k : Int) < (N : Int) := by omega
        obtain ⟨b1, o1, rfl, _, hr1⟩ := (HW1.out.gr HK.out).2 (by omega)
        obtain ⟨b2, o2, rfl, _, hr2⟩ := (HW2.out.gr HK.out).2 (by omega)
        obtain ⟨sb1, so1, sC1, p1⟩ := hr1 k hlt
        obtain ⟨sb2, so2, sC2, p2⟩ := hr2 k hlt
        obtain ⟨nn, hnn⟩ : ∃ nn, nn = (f k).n := ⟨_, rfl⟩
        obtain ⟨zz, hzz⟩ : ∃ zz, zz = (f k).z := ⟨_, rfl⟩
        obtain ⟨pl, hpl⟩ : ∃ pl, pl = (f k).pl := ⟨_, rfl⟩
        have c10 := p1.c0
        have c11 := p1.c1
        have c20 := p2.c0
        have c21 := p2.c1
        have r1 := p1.row
        have r2 := p2.row
        rw [← hnn] at c11 c21
        rw [← hnn, ← hzz] at r1 r2
        rw [← hpl] at c10 c20
        have HSA : Hid (∀ j, Calls Tryz.prog 15 #[.slice (some ⟨sb1, so1, none⟩) nn sC1, .slice (some ⟨sb2, so2, none⟩) nn sC2] (wr.drewN j) (Qu (.bool true) (wr.drewN j))) := Lib.hid fun j => by
          have := same_any (some ⟨sb1, so1, none⟩) (some ⟨sb2, so2, none⟩) nn nn sC1 sC2 zz zz (wr.drewN j) (r1.gr ((Ch.refl _ wr).drewN j)) (r2.gr ((Ch.refl _ wr).drewN j))
          rw [show eqB nn nn zz zz = true from eqB_self nn zz] at this
          exact this
        have HLT := Lib.hid hlt
        have HCC : Hid (∀ W, Ch (fun _ => False) wr W → (W.cell? ⟨b1, o1 + k * 2, none⟩ = some (.int .i64 pl) ∧ W.cell? ⟨b2, o2 + k * 2, none⟩ = some (.int .i64 pl))) := Lib.hid fun W c => ⟨c.cell c10 (fun f => f), c.cell c20 (fun f => f)⟩
        clear hr1 hr2 p1 p2 r1 r2 hnn hzz hpl hlt c10 c20
        go_upto_region 14 with fail
        go_quiet ((go_at_call 15; exact Qu.at (HSA.out _)))
        obtain ⟨w8, hw8⟩ : ∃ w8, w8 = wr.drewN nq := ⟨_, rfl⟩
        rw [← hw8]
        have hc8 : Ch (fun _ => False) wr w8 := by rw [hw8]; exact (Ch.refl _ wr).drewN nq
        have HC8 := Lib.hid (HK.out.trans hc8)
        obtain ⟨c10, c20⟩ := HCC.out w8 hc8
        clear hw8 hc8 c11 c21 HSA
        go_wp2_with fail
        go_quiet (fail)
        obtain ⟨w9, hw9⟩ : ∃ w9, w9 = w8.drewN nq := ⟨_, rfl⟩
        rw [← hw9]
        have HC9 := Lib.hid (show Ch (fun _ => False) w7 w9 by rw [hw9]; exact HC8.out.trans ((Ch.refl _ w8).drewN nq))
        clear hw9 c10 c20
        go_wp2_with fail
        go_roundw
        case rel => exact ⟨k + 1, HLT.out, by go_num, HC9⟩
        case measure => have := HLT.out; simp [intOf]; omega
      · have hke : k = N := by omega
        have k1 : ¬ (k : Int) < (N : Int) := by omega
        have HFIN := Lib.hid (HC7.out.trans HK.out)
        clear hke
        go_wp2
        go_ret
        exact ⟨rfl, HFIN.out⟩
theorem snapPuts_of (vol : Int) (g : Ge) (a ep no : Int) (v : Value) (s : Int) (w : World) {l : Nat} {z : Nat → Nat} (hb : RowV w v l z) : Calls Tryz.prog 3 #[.int .i64 vol, .agg (geC g), .int .i64 a, .int .i64 ep, .int .i64 no, v, .int .i64 s] w (Told w) := by
  obtain ⟨A, C, rfl, _⟩ := id hb
  cases h : smlB g with
  | false => exact snapPuts_short vol g a ep no A l C s w (Or.inl h)
  | true =>
    by_cases hl : l ≤ 4000
    · exact snapPuts_long vol g a ep no A l C z s w h hl hb
    · exact snapPuts_short vol g a ep no A l C s w (Or.inr ⟨h, by omega⟩)
#print axioms snapPuts_of
end Go.Proofs.YtlbdopcchoklhaaGreat
