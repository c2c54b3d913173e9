/-
  What RingTells needs besides.
-/
import Derived.Test.YteleknojohnlbaaGreatMh1
import Derived.Test.YteleknojohnlbaaGreatMh25
import Derived.Test.YteleknojohnlbaaGreatMh26
import Derived.Deep.Slices
import Derived.Deep.Fields
import Derived.ChangeSame
import Derived.Test.YteleknojohnlbaaGreatMh20
import Derived.Test.YteleknojohnlbaaGreatMh45
import Derived.Test.YteleknojohnlbaaGreatMh41
import Derived.Test.YteleknojohnlbaaGreatMh16
import Derived.Deep.RegionHeld3
import Derived.Test.YteleknojohnlbaaGreatMh18
import Derived.Test.YteleknojohnlbaaGreatMh22
import Derived.Test.YteleknojohnlbaaGreatMh23
import Derived.Test.YteleknojohnlbaaGreatMh17
import Derived.Deep.RegionLaw
import Derived.Test.YteleknojohnlbaaGreatMh2
import Derived.Test.YteleknojohnlbaaGreatMh27
import Derived.BigRegion
import Derived.Test.YteleknojohnlbaaGreatMh44
import Derived.Test.YteleknojohnlbaaGreatMh19
import Derived.Laws.ResultCell
import Derived.StillTailTactics
namespace Go.Proofs.YteleknojohnlbaaGreat
open Go.ChangeShapes Go.WideShapes Go.ChangeAt Go.RowKit Go.Deep
set_option linter.unusedVariables false
set_option maxRecDepth 100000

theorem bytes5 : Tryz.prog.bytesOf 5 = 1 := by kernel_rfl
/-- Bytes that are handed in. -/
theorem open_row {H : Type} {enc : TypeId × Value → H} {W : World} {v : Value} {d : DataW H} {p : List MemPlace} (hv : ∃ a len cap, v = .slice a len cap) (h : DataW.Trod enc Tryz.prog W 0 (fun _ => true) true /-t-/24 v d p)
    (s1 : ∀ elems spare, d = .slice elems spare → (elems.length + spare.length) * 1 ≤ reachBytes) : ∃ n z, RowV W v n z := by
  obtain ⟨a0, len, cap, rfl⟩ := hv
  obtain ⟨fuel, hf⟩ := h
  rcases open_ints Tryz.underlying24 Tryz.underlying5 cells5 hf with ⟨hcs0, hx⟩ | ⟨a, len', cap', zs, hcs0, _, hl, hm, hzl, hx, hcell, hwf⟩
  · simp [Value.cells] at hcs0
    obtain ⟨rfl, rfl, rfl⟩ := hcs0
    exact ⟨0, fun _ => 0, nil_row _ _⟩
  · simp [Value.cells] at hcs0
    obtain ⟨rfl, rfl, rfl⟩ := hcs0
    simp only [Prod.mk.injEq] at hx
    obtain ⟨rfl, rfl⟩ := hx
    simp only [if_true] at hzl
    have hlen := s1 _ _ rfl
    simp only [lits, List.length_map, List.length_take, List.length_drop, hzl, reach_eq] at hlen
    refine ⟨len, fun c => (zs.getD c 0).toNat, some a, cap, rfl, by omega, fun h0 => ?_⟩
    obtain ⟨b, o, rfl⟩ := addr_none (hcell 0 (by omega))
    refine ⟨b, o, rfl, fun c hc => ?_⟩
    have hcc := hcell c (by omega)
    rw [add_pl] at hcc
    have hb := b8 (hwf (zs.getD c 0) (by
      rw [List.getD, List.getElem?_eq_getElem (show c < zs.length by omega)]
      exact List.getElem_mem _))
    have e : (((zs.getD c 0).toNat : Nat) : Int) = zs.getD c 0 := by omega
    exact ⟨by show _ = some (Value.int .u8 (((zs.getD c 0).toNat : Nat) : Int)); rw [e]; exact hcc, by show (zs.getD c 0).toNat < 256; omega⟩
theorem row_of {H : Type} {enc : TypeId × Value → H} {W : World} {v : Value} {x : DataW H × List MemPlace} {fuel : Nat} (h : DataW.trod enc Tryz.prog W 0 (fun _ => true) true fuel /-t-/24 [v] = some x)
    (s1 : ∀ elems spare, x.1 = .slice elems spare → (elems.length + spare.length) * 1 ≤ reachBytes) : ∃ n z, RowV W v n z := by
  have hv : ∃ a len cap, v = .slice a len cap := by
    rcases open_ints Tryz.underlying24 Tryz.underlying5 cells5 h with ⟨hcs0, _⟩ | ⟨a, len', cap', zs, hcs0, _⟩
    · exact ⟨_, _, _, by simpa using hcs0⟩
    · exact ⟨_, _, _, by simpa using hcs0⟩
  obtain ⟨a, len, cap, rfl⟩ := hv
  exact open_row (d := x.1) (p := x.2) ⟨_, _, _, rfl⟩ ⟨fuel, h⟩ s1
end Go.Proofs.YteleknojohnlbaaGreat

namespace Go.Proofs.YteleknojohnlbaaGreat
open Go.RowKit
set_option linter.unusedVariables false
set_option maxRecDepth 100000

set_option maxHeartbeats 800000 in
set_option maxRecDepth 100000 in
theorem brnum_any (A : Option Addr) (n C : Nat) (z : Nat → Nat) (w : World) (h : RowV w (.slice A n C) n z) (hn : n ≤ 4) : Calls Tryz.prog 86 #[.slice A n C] w fun e w' => e = .returned (.int .i64 (nv z 0 n : Int)) ∧ w = w' := by
  have HV := Lib.hid h
  have HB := Lib.hid h.bytes
  have HPL := Lib.hid (fun k => @pk_le k)
  clear h
  go_enter Tryz.func86, Tryz.ntmps86
  go_wp2
  go_loop [3, 4, 5] (fun s p i => ∃ k : Nat, k ≤ n ∧ i = .int .i64 k ∧ s = .int .i64 (nv z 0 k : Int) ∧ p = .int .i64 (pk k : Int)) (fun _ _ i => n - (intOf i).toNat)
  case atStart => exact ⟨0, Nat.zero_le _, rfl, rfl, rfl⟩
  case round =>
    obtain ⟨k, hk, rfl, rfl, rfl⟩ := hrel
    by_cases hlt : k < n
    · have tk : decide (k < n) = true := by simp; omega
      obtain ⟨b, o, rfl, hc⟩ := HV.out.at (by omega)
      have c1 := hc k (by omega)
      have hx : z k < 256 := HB.out k (by omega)
      have hp := HPL.out (k := k + 1) (by omega)
      rw [pk_succ] at hp
      have hlt2 := nv_lt (z := z) (a := 0) k (fun i hi => by rw [Nat.zero_add]; exact HB.out i (by omega))
      have hxp : z k * pk k ≤ 255 * pk k := Nat.mul_le_mul_right _ (by omega)
      have HS := Lib.hid (show (nv z 0 k : Int) + (z k : Int) * (pk k : Int) = (nv z 0 (k + 1) : Int) by
        show _ = ((nv z 0 k + z (0 + k) * pk k : Nat) : Int)
        rw [Nat.zero_add, Int.natCast_add, Int.natCast_mul])
      have HP := Lib.hid (pk_succ k)
      have i1 : (0 : Int) ≤ (k : Int) := Int.natCast_nonneg _
      have i2 : (k : Int) < (n : Int) := by omega
      have hpk : pk k * 256 ≤ 4294967296 := hp
      have hS2 : nv z 0 k ≤ 4294967296 := by omega
      clear hc hp hlt2
      go_wp2
      go_round
      case rel => exact ⟨k + 1, by omega, by go_num, int_eq HS.out, by rw [HP.out]; go_num⟩
      case measure => simp [intOf]; omega
    · obtain rfl : k = n := by omega
      have tk : decide (k < k) = false := by simp
      go_wp2
      go_ret
      exact ⟨rfl, rfl⟩
end Go.Proofs.YteleknojohnlbaaGreat

namespace Go.Proofs.YteleknojohnlbaaGreat
open Go.RowKit
set_option linter.unusedVariables false
set_option maxRecDepth 100000

theorem readB_len (V : Value) (z : Nat → Nat) : (readB V z).len = rdLen z := rfl
end Go.Proofs.YteleknojohnlbaaGreat

namespace Go.Proofs.YteleknojohnlbaaGreat
open Go.ChangeShapes Go.WideShapes Go.ChangeAt Go.RowKit Go.Deep
set_option linter.unusedVariables false
set_option maxRecDepth 100000

theorem numL_get {k c : Nat} {q : Nat → Int} (h : c < k) : (numL k q)[c]? = some (.int .i64 (q c)) := by unfold numL; simp [h]
theorem numL_congr {k : Nat} {q r : Nat → Int} (h : ∀ c, c < k → q c = r c) : numL k q = numL k r := List.map_congr_left fun c hc => by rw [h c (List.mem_range.1 hc)]

theorem own_intV {w : World} {base k : Nat} {v : Value} {q : Nat → Int} (h : w.ownsRow base /-t-/3 1 v k (numL k q)) (hk : k ≤ 140737488351232) : IntV w v k q := by
  rcases h.2 with ⟨rfl, h0⟩ | ⟨g, cap, cur, rfl, hb, hgg, hcap, hm, hs, ht⟩
  · subst h0; exact none_intV w q 0
  · refine ⟨_, _, rfl, ⟨hk, hcap⟩, fun _ => ⟨g, 0, rfl, fun c hc => ?_⟩⟩
    have := World.ownsRow.cells h (g := g) rfl c (Value.int .i64 (q c)) (numL_get hc)
    rwa [add_pl] at this
theorem wpList_appI {ops : Array Oper} {rest : List Oper} {o : Oper} {a : Act} {Q : Exit → Act → World → Prop} (w : World) (hgd : o.guard = none) (s x : Operand)
    (ho : o.op = .call { callee := .builtin .append, args := #[s, x], argTypes := #[ 45, 45] }) (hty : o.type = 45) (sv xv v' : Value) (w' : World) (hs : a.eval s = sv) (hx : a.eval x = xv)
    (hrun : (Builtin.append_ #[ 45, 45] 45 #[sv, xv]).run Tryz.prog w = .ok v' w') (h : wpList Tryz.prog ops Q rest (a.put o.dst v') w') : wpList Tryz.prog ops Q (o :: rest) a w := by
  refine wpList_plain hgd fun _ hK => ?_
  unfold Oper.wp execOp
  simp only [ho, hty, resolve, invoke, builtin, Sem.run_bind, Sem.run_pure, Result.andThen_ok, List.map_toArray, List.map_cons, List.map_nil, hs, hx, hrun]
  exact hK _ _ h
end Go.Proofs.YteleknojohnlbaaGreat

namespace Go.Proofs.YteleknojohnlbaaGreat
open Go.RowKit
set_option linter.unusedVariables false
set_option maxRecDepth 100000

theorem openE_zero {n : Nat} {z : Nat → Nat} : openQ n z = 0 ↔ opensB n z = true := by
  unfold openQ
  by_cases h : n = 256
  · subst h
    rw [if_pos rfl]
    cases opensB 256 z <;> simp
  · rw [if_neg h, opensB_long z h]
    simp
end Go.Proofs.YteleknojohnlbaaGreat

namespace Go.Proofs.YteleknojohnlbaaGreat
namespace Cod
set_option linter.unusedVariables false
set_option maxRecDepth 100000

theorem rd_e {n : Nat} {z : Nat → Nat} {k e : Nat} (h : Rd n z k e) : e = 0 ∨ (e = 6 ∧ k = 0) ∨ (e = 7 ∧ k = 0) := by
  rcases h with h | h | h
  · exact Or.inl h.1
  · exact Or.inr (Or.inl ⟨h.1, h.2.1⟩)
  · exact Or.inr (Or.inr ⟨h.1, h.2.1⟩)
theorem val_top {n : Nat} {z : Nat → Nat} {k : Nat} (h : Rd n z k 0) : val z k < 18446744073709551616 := by
  obtain ⟨h1, h2, h3, h4, h5, h6, h7⟩ := rd_ok_short h
  rcases Nat.lt_or_ge k 10 with q | q
  · exact Nat.lt_of_lt_of_le (val_lt z k) (Nat.le_trans (Nat.pow_le_pow_right (by omega) (show k ≤ 9 by omega)) (by decide))
  · obtain rfl : k = 10 := by omega
    have h8 := h6 rfl
    have h9 := val_lt z 9
    show val z 9 + z 9 % 128 * 128 ^ 9 < _
    have e : (128 : Nat) ^ 9 = 9223372036854775808 := by decide
    rw [e] at h9 ⊢
    have : z 9 % 128 ≤ 1 := by omega
    have := Nat.mul_le_mul_right 9223372036854775808 this
    omega
theorem half_next (z : Nat → Nat) (k : Nat) : val z (k + 2) / 2 = val z (k + 1) / 2 + z (k + 1) % 128 * (64 * 128 ^ k) := by
  show (val z (k + 1) + z (k + 1) % 128 * 128 ^ (k + 1)) / 2 = _
  have e : z (k + 1) % 128 * 128 ^ (k + 1) = 2 * (z (k + 1) % 128 * (64 * 128 ^ k)) := by
    rw [Nat.pow_succ, Nat.mul_comm (128 ^ k) 128, show (128 : Nat) = 2 * 64 from rfl, Nat.mul_assoc 2 64, ← Nat.mul_assoc, Nat.mul_comm _ 2, Nat.mul_assoc]
  rw [e]; omega
theorem odd_is (z : Nat → Nat) : ∀ k, val z (k + 1) % 2 = z 0 % 2
  | 0 => by simp [val]
  | k + 1 => by
    have ih := odd_is z k
    show (val z (k + 1) + z (k + 1) % 128 * 128 ^ (k + 1)) % 2 = _
    have e : z (k + 1) % 128 * 128 ^ (k + 1) = 2 * (z (k + 1) % 128 * (64 * 128 ^ k)) := by
      rw [Nat.pow_succ, Nat.mul_comm (128 ^ k) 128, show (128 : Nat) = 2 * 64 from rfl, Nat.mul_assoc 2 64, ← Nat.mul_assoc, Nat.mul_comm _ 2, Nat.mul_assoc]
    rw [e]; omega
theorem half_zero (z : Nat → Nat) : val z 1 / 2 = z 0 % 128 / 2 := by simp [val]
end Cod
end Go.Proofs.YteleknojohnlbaaGreat

namespace Go.Proofs.YteleknojohnlbaaGreat
open Go.RowKit Go.Shelf Cod
set_option linter.unusedVariables false
set_option maxRecDepth 100000

set_option maxHeartbeats 400000 in
theorem rest_nil (w : World) : Calls Tryz.prog 121 #[.pointer none] w fun e w' => e = .returned (.slice none 0 0) ∧ w = w' := by
  go_enter Tryz.func121, Tryz.ntmps121
  go_wp2
  go_ret
  exact ⟨rfl, rfl⟩
end Go.Proofs.YteleknojohnlbaaGreat

namespace Go.Proofs.YteleknojohnlbaaGreat
open Go.RowKit Go.Shelf Cod
set_option linter.unusedVariables false
set_option maxRecDepth 100000

theorem ret_pair {a b c d : Int} (h : a = b) (k : c = d) : Ending.returned (.tuple #[.int .i64 a, .int .i64 c]) = .returned (.tuple #[.int .i64 b, .int .i64 d]) := by rw [h, k]
set_option maxHeartbeats 1000000 in
set_option maxRecDepth 100000 in
theorem run_any (A : Option Addr) (n C : Nat) (z : Nat → Nat) (k e : Nat) (w : World) (h : RowV w (.slice A n C) n z) (hr : Rd n z k e) : Calls Tryz.prog 87 #[.slice A n C] w fun en w' => en = .returned (.tuple #[.int .i64 (k : Int), .int .i64 (e : Int)]) ∧ w = w' := by
  obtain ⟨_, _, _, hl, _⟩ := id h
  have hl1 := hl.1
  have HV := Lib.hid h
  have HD := Lib.hid hr
  clear h hr hl
  go_enter Tryz.func87, Tryz.ntmps87
  go_wp2
  go_loop [4] (fun i => ∃ m : Nat, m ≤ n ∧ m ≤ 9 ∧ i = .int .i64 m ∧ Hid (∀ j, j < m → 128 ≤ z j)) (fun i => n - (intOf i).toNat)
  case atStart => exact ⟨0, Nat.zero_le _, by omega, rfl, fun j hj => absurd hj (Nat.not_lt_zero j)⟩
  case round =>
    obtain ⟨m, hm, hm9, rfl, HZ⟩ := hrel
    by_cases hlt : m < n
    · obtain ⟨b, o, rfl, hc⟩ := HV.out.at (by omega)
      have c1 := hc m hlt
      have hz := HV.out.bytes m hlt
      have t0 : ((m : Int) == 10) = false := by simp; omega
      clear hc
      by_cases h9 : m = 9
      · subst h9
        by_cases h1 : 1 < z 9
        · have HE := Lib.hid (rd_one HD.out (rd_long hlt HZ.out h1))
          have t1 : decide ((1 : Int) < (z 9 : Int)) = true := by simp; omega
          clear h1
          go_wp2
          go_ret2
          exact ⟨ret_pair (by rw [HE.out.1]; rfl) (by rw [HE.out.2]; rfl), rfl⟩
        · have t1 : decide ((1 : Int) < (z 9 : Int)) = false := by simp; omega
          have t2 : decide ((z 9 : Int) < 128) = true := by simp; omega
          by_cases h0 : z 9 = 0
          · have HE := Lib.hid (rd_one HD.out (rd_idle (by omega) hlt (by omega) HZ.out h0))
            have t3 : ((z 9 : Int) == 0) = true := by simp; omega
            clear h0 h1
            go_wp2
            go_ret2
            exact ⟨ret_pair (by rw [HE.out.1]; rfl) (by rw [HE.out.2]; rfl), rfl⟩
          · have HE := Lib.hid (rd_one HD.out (rd_ok hlt (by omega) HZ.out (by omega) (fun _ => by omega) (fun q => absurd q h0)))
            have t3 : ((z 9 : Int) == 0) = false := by simp; omega
            clear h0 h1
            go_wp2
            go_ret2
            exact ⟨ret_pair (by rw [HE.out.1]; rfl) (by rw [HE.out.2]; rfl), rfl⟩
      · have t9 : ((m : Int) == 9) = false := by simp; omega
        by_cases h2 : z m < 128
        · have t2 : decide ((z m : Int) < 128) = true := by simp; omega
          by_cases h0 : z m = 0
          · have t3 : ((z m : Int) == 0) = true := by simp; omega
            by_cases hp : 0 < m
            · have HE := Lib.hid (rd_one HD.out (rd_idle hp hlt hm9 HZ.out h0))
              have t4 : decide ((0 : Int) < (m : Int)) = true := by simp; omega
              have t5 : decide (0 < m) = true := by simp; omega
              clear h0 hp h2 h9
              go_wp2
              go_ret2
              exact ⟨ret_pair (by rw [HE.out.1]; rfl) (by rw [HE.out.2]; rfl), rfl⟩
            · have HE := Lib.hid (rd_one HD.out (rd_ok hlt hm9 HZ.out h2 (fun q => absurd q h9) (fun _ => by omega)))
              have t4 : decide ((0 : Int) < (m : Int)) = false := by simp; omega
              have t5 : decide (0 < m) = false := by simp; omega
              clear h0 hp h2 h9
              go_wp2
              go_ret2
              exact ⟨ret_pair (by rw [HE.out.1]; omega) (by rw [HE.out.2]; rfl), rfl⟩
          · have HE := Lib.hid (rd_one HD.out (rd_ok hlt hm9 HZ.out h2 (fun q => absurd q h9) (fun q => absurd q h0)))
            have t3 : ((z m : Int) == 0) = false := by simp; omega
            clear h0 h2 h9
            go_wp2
            go_ret2
            exact ⟨ret_pair (by rw [HE.out.1]; omega) (by rw [HE.out.2]; rfl), rfl⟩
        · have t2 : decide ((z m : Int) < 128) = false := by simp; omega
          have HZ2 : Hid (∀ j, j < m + 1 → 128 ≤ z j) := fun j hj => by
            by_cases q : j = m
            · rw [q]; omega
            · exact HZ j (by omega)
          have hm8 : m + 1 ≤ 9 := by omega
          clear h2 h9
          go_wp2
          go_round
          case rel => exact ⟨m + 1, by omega, hm8, by go_num, HZ2⟩
          case measure => simp [intOf]; omega
    · obtain rfl : m = n := by omega
      have HE := Lib.hid (rd_one HD.out (rd_short hm9 HZ.out))
      go_wp2
      go_ret2
      exact ⟨ret_pair (by rw [HE.out.1]; rfl) (by rw [HE.out.2]; rfl), rfl⟩
theorem val_mono (z : Nat → Nat) {i j : Nat} (h : i ≤ j) : val z i ≤ val z j := by
  induction j with
  | zero => obtain rfl : i = 0 := by omega
            exact Nat.le_refl _
  | succ j ih =>
    by_cases q : i = j + 1
    · rw [q]; exact Nat.le_refl _
    · exact Nat.le_trans (ih (by omega)) (Nat.le_add_right _ _)
theorem pw7_zero : pw7 0 = 64 := by decide
theorem pw7_next {k : Nat} (h : k < 8) : pw7 (k + 1) = pw7 k * 128 := by unfold pw7; rw [if_pos (by omega), if_pos (by omega), Nat.pow_succ]; omega
theorem pw7_last : pw7 9 = pw7 8 := by decide
theorem pw7_le {k : Nat} (h : k ≤ 8) : pw7 k ≤ 4611686018427387904 := by
  unfold pw7
  rw [if_pos (by omega)]
  have : 128 ^ k ≤ 128 ^ 8 := Nat.pow_le_pow_right (by omega) h
  have e : (128 : Nat) ^ 8 = 72057594037927936 := by decide
  omega
theorem pw7_le8 {k : Nat} (h : k < 8) : pw7 k * 128 ≤ 4611686018427387904 := by rw [← pw7_next h]; exact pw7_le (by omega)
theorem half_step (z : Nat → Nat) {k : Nat} (h : k ≤ 8) : val z (k + 2) / 2 = val z (k + 1) / 2 + z (k + 1) % 128 * pw7 k := by
  rw [half_next]; unfold pw7; rw [if_pos (by omega)]
set_option maxHeartbeats 1000000 in
set_option maxRecDepth 100000 in
theorem halves_any (A : Option Addr) (m C : Nat) (z : Nat → Nat) (w : World) (h : RowV w (.slice A m C) m z) (hm : 0 < m) (hm10 : m ≤ 10) (hv : val z m < 18446744073709551616) :
    Calls Tryz.prog 88 #[.slice A m C] w fun en w' => en = .returned (.tuple #[.int .i64 ((val z m / 2 : Nat) : Int), .int .i64 ((val z m % 2 : Nat) : Int)]) ∧ w = w' := by
  have HV := Lib.hid h
  have HT := Lib.hid hv
  obtain ⟨b, o, rfl, hc⟩ := h.at hm
  have c0 := hc 0 hm
  have HC := Lib.hid hc
  have hz := h.bytes 0 hm
  have H0 := Lib.hid (show (z 0 : Int) % 128 / 2 = ((val z (0 + 1) / 2 : Nat) : Int) by rw [half_zero]; omega)
  have HO := Lib.hid (show (z 0 : Int) % 2 = ((val z m % 2 : Nat) : Int) by
    obtain ⟨j, rfl⟩ : ∃ j, m = j + 1 := ⟨m - 1, by omega⟩
    rw [odd_is]; omega)
  rw [Nat.add_zero] at c0
  have hmm : (m : Int) ≠ 0 := by omega
  clear h hv hc
  go_enter Tryz.func88, Tryz.ntmps88
  go_wp2
  go_loop [4, 6, 7] (fun hf p q => ∃ i : Nat, i + 1 ≤ m ∧ q = .int .i64 ((i : Int) + 1) ∧ p = .int .i64 (pw7 i : Int) ∧ hf = .int .i64 ((val z (i + 1) / 2 : Nat) : Int)) (fun _ _ q => m - (intOf q).toNat)
  case atStart => exact ⟨0, hm, rfl, by rw [pw7_zero]; rfl, int_eq H0.out⟩
  case round =>
    obtain ⟨i, hi, rfl, rfl, rfl⟩ := hrel
    by_cases hlt : i + 1 < m
    · have c1 := HC.out (i + 1) hlt
      have hz1 := HV.out.bytes (i + 1) hlt
      have hstep := half_step z (k := i) (by omega)
      have hmono := val_mono z (show i + 2 ≤ m by omega)
      have hpl := pw7_le (k := i) (by omega)
      have HN8 : Hid (i < 8 → pw7 (i + 1) = pw7 i * 128) := fun h => pw7_next h
      have HL9 : Hid (i < 8 → pw7 i * 128 ≤ 4611686018427387904) := fun h => pw7_le8 h
      have HL8 : Hid (i = 8 → pw7 (i + 1) = pw7 i) := fun h => by subst h; exact pw7_last
      have t1 : decide ((i : Int) + 1 < (m : Int)) = true := by simp; omega
      obtain ⟨H, hH⟩ : ∃ H, H = val z (i + 1) / 2 := ⟨_, rfl⟩
      obtain ⟨P, hP⟩ : ∃ P, P = pw7 i := ⟨_, rfl⟩
      obtain ⟨X, hX⟩ : ∃ X, X = z (i + 1) := ⟨_, rfl⟩
      obtain ⟨Q, hQ⟩ : ∃ Q, Q = X % 128 * P := ⟨_, rfl⟩
      rw [← hH, ← hX, ← hP, ← hQ] at hstep
      rw [← hX] at c1 hz1
      rw [← hP] at hpl HN8 HL8 HL9 ⊢
      rw [← hH]
      have hlim : H + Q ≤ 9223372036854775807 := by have := HT.out; omega
      have e0 : (X : Int) % 128 * (P : Int) = (Q : Int) := by rw [hQ]; simp
      have e1 : IntKind.i64.wrap ((X : Int) % 128 * (P : Int)) = (Q : Int) := by rw [e0]; exact IntWalk.i64_in _ (by omega)
      have e2 : wrap64 ((X : Int) % 128 * (P : Int)) = (Q : Int) := by rw [e0]; exact IntWalk.wrap64_in _ (by omega)
      have HST := Lib.hid hstep
      clear hH hP hX hQ hstep hmono e0
      by_cases h8 : i < 8
      · have HP8 := Lib.hid (HN8.out h8)
        have hpl2 : P * 128 ≤ 9223372036854775807 := by have := HL9.out h8; omega
        have t2 : decide ((i : Int) + 1 < 9) = true := by simp; omega
        clear hpl
        go_wp2
        go_round
        case rel => exact ⟨i + 1, hlt, by go_num, by rw [HP8.out]; go_num, by rw [HST.out]; go_num⟩
        case measure => simp [intOf]; omega
      · have HP8 := Lib.hid (HL8.out (by omega))
        have t2 : decide ((i : Int) + 1 < 9) = false := by simp; omega
        clear hpl
        go_wp2
        go_round
        case rel => exact ⟨i + 1, hlt, by go_num, by rw [HP8.out], by rw [HST.out]; go_num⟩
        case measure => simp [intOf]; omega
    · obtain rfl : i + 1 = m := by omega
      have t1 : decide ((i : Int) + 1 < ((i + 1 : Nat) : Int)) = false := by simp
      go_wp2
      go_ret2
      exact ⟨ret_pair rfl HO.out, rfl⟩
end Go.Proofs.YteleknojohnlbaaGreat

namespace Go.Proofs.YteleknojohnlbaaGreat
open Go.RowKit Go.Shelf Cod
set_option linter.unusedVariables false
set_option maxRecDepth 100000

theorem rpost_all {n K : Nat} {x r1 r2 : Value} {z : Nat → Nat} {w : World} (hK : K = 0) (h : RowV w x n z) (hn : NN x) (d : Nat) : GetRPost n x z K r1 r2 w (.returned (.tuple #[r1, x, r2])) (w.drewN d) := by
  subst hK
  exact ⟨x, d, rfl, rfl, h.congr (fun i _ => by rw [Nat.zero_add]), hn, fun S h => h⟩
theorem rpost_all0 {n K : Nat} {x r1 r2 : Value} {z : Nat → Nat} {w : World} (hK : K = 0) (h : RowV w x n z) (hn : NN x) : GetRPost n x z K r1 r2 w (.returned (.tuple #[r1, x, r2])) w := rpost_all hK h hn 0
theorem rpost_end {n K b o : Nat} {r1 r2 : Value} {z : Nat → Nat} {w : World} (hK : K = n) (d : Nat) : GetRPost n (.slice (some ⟨b, o, none⟩) n n) z K r1 r2 w (.returned (.tuple #[r1, .slice (some ⟨b, o, none⟩) 0 0, r2])) (w.drewN d) := by
  subst hK
  exact ⟨_, d, rfl, rfl, by rw [Nat.sub_self]; exact none_row _ _ _, nn_some _ _ _ _, fun S _ => Off.zero⟩
theorem rpost_tail {n K b o C : Nat} {r1 r2 : Value} {z : Nat → Nat} {w : World} (h : RowV w (.slice (some ⟨b, o, none⟩) n C) n z) (hK : K ≤ n) (h0 : 0 < n) (d : Nat) : GetRPost n (.slice (some ⟨b, o, none⟩) n C) z K r1 r2 w (.returned (.tuple #[r1, .slice (some ⟨b, o + K, none⟩) (n - K) (C - K), r2])) (w.drewN d) :=
  ⟨_, d, rfl, rfl, row_tail h hK, nn_some _ _ _ _, fun S hS => hS.part h0⟩
theorem half_top {v : Nat} : v ≤ T63 ↔ ¬ 4611686018427387903 < v / 2 := by unfold T63; omega
set_option maxHeartbeats 1000000 in
set_option maxRecDepth 100000 in
theorem rgetnum_any (A : Option Addr) (n C : Nat) (z : Nat → Nat) (k e : Nat) (w : World) (h : RowV w (.slice A n C) n z) (hnn : NN (.slice A n C)) (hr : Rd n z k e) :
    Calls Tryz.prog 51 #[.slice A n C] w (GetRPost n (.slice A n C) z (resK T63 z k e) (.int .i64 (resV T63 z k e : Int)) (.int .i64 (resE T63 z k e : Int)) w) := by
  obtain ⟨_, _, e0, hl, _⟩ := id h
  injection e0 with e0 _ e1
  subst e0
  subst e1
  have hl1 := hl.1
  have HV := Lib.hid h
  have HD := Lib.hid hr
  have HNN := Lib.hid hnn
  rcases rd_e hr with rfl | he
  case inr =>
    have he2 : ¬ e = 0 := by omega
    have hk : k = 0 := by omega
    have t1 : ((e : Int) != 0) = true := by simpa using he2
    have e1 : resV T63 z k e = 0 ∧ resK T63 z k e = 0 ∧ resE T63 z k e = e := by unfold resV resK resE; rw [if_neg he2, if_neg he2, if_neg he2]; exact ⟨rfl, rfl, rfl⟩
    rw [e1.1, e1.2.1, e1.2.2]
    subst hk
    clear h hnn hr hl he he2 e1
    go_enter Tryz.func51, Tryz.ntmps51
    go_wp2_with fail
    refine (run_any A n C z _ _ _ HV.out HD.out).mono ?_
    rintro e' w' ⟨rfl, rfl⟩
    go_wp2
    refine bodyPost_ret (v := .tuple #[.int .i64 0, .slice A n C, .int .i64 (e : Int)]) (by simp [results, Tryz.results51, go_sem]) rfl ?_
    exact rpost_all0 rfl HV.out HNN.out
  obtain ⟨hk0, hkn, hk10, _⟩ := rd_ok_short hr
  have hvt := val_top hr
  have HT := Lib.hid hvt
  obtain ⟨b, o, rfl, _⟩ := h.at (by omega)
  have HF := Lib.hid (row_front h hkn)
  have hl2 := hl.2
  have e5 : ((n - k : Nat) : Int) = (n : Int) - (k : Int) := by omega
  have e6 : ((C - k : Nat) : Int) = (C : Int) - (k : Int) := by omega
  by_cases htop : val z k ≤ T63
  · obtain ⟨r1, r2, r3⟩ := res_ok (k := k) rfl htop
    rw [r1, r2, r3]
    have t2 : decide ((4611686018427387903 : Int) < ((val z k / 2 : Nat) : Int)) = false := by have := half_top.1 htop; simp; omega
    have hsum : 2 * (val z k / 2) + val z k % 2 = val z k := by omega
    have hb : val z k ≤ 9223372036854775807 := htop
    obtain ⟨V, hV⟩ : ∃ V, V = val z k := ⟨_, rfl⟩
    have HVV := Lib.hid hV
    rw [← hV] at hsum hb t2 ⊢
    obtain ⟨H, hH⟩ : ∃ H, H = V / 2 := ⟨_, rfl⟩
    obtain ⟨O, hO⟩ : ∃ O, O = V % 2 := ⟨_, rfl⟩
    have HHH := Lib.hid hH
    have HOO := Lib.hid hO
    rw [← hH, ← hO] at hsum
    rw [← hH] at t2
    have hHl : H ≤ 4611686018427387903 := by omega
    have hOl : O ≤ 1 := by omega
    have HS := Lib.hid (show 2 * (H : Int) + (O : Int) = (V : Int) by omega)
    clear h hnn hr hl hvt htop r1 r2 r3 hV hH hO hsum hb
    by_cases hC : C = k
    · subst hC
      obtain rfl : n = C := by omega
      go_enter Tryz.func51, Tryz.ntmps51
      go_wp2_with fail
      refine (run_any _ n n z n 0 _ HV.out HD.out).mono ?_
      rintro e' w' ⟨rfl, rfl⟩
      go_wp2_with fail
      refine (halves_any _ n n z _ HF.out (by omega) (by omega) HT.out).mono ?_
      rintro e' w' ⟨rfl, rfl⟩
      rw [← HVV.out, ← HHH.out, ← HOO.out]
      go_wp2
      go_quiet (fail)
      go_wp2
      refine bodyPost_ret (v := .tuple #[.int .i64 (2 * (H : Int) + (O : Int)), .slice (some ⟨b, o, none⟩) 0 0, .int .i64 0]) (by simp [results, Tryz.results51, go_sem]) rfl ?_
      rw [HS.out]
      exact rpost_end rfl _
    · have t3 : (C : Int) - (k : Int) ≠ 0 := by omega
      go_enter Tryz.func51, Tryz.ntmps51
      go_wp2_with fail
      refine (run_any _ n C z k 0 _ HV.out HD.out).mono ?_
      rintro e' w' ⟨rfl, rfl⟩
      go_wp2_with fail
      refine (halves_any _ k C z _ HF.out (by omega) (by omega) HT.out).mono ?_
      rintro e' w' ⟨rfl, rfl⟩
      rw [← HVV.out, ← HHH.out, ← HOO.out]
      go_wp2
      go_quiet (fail)
      go_wp2
      refine bodyPost_ret (v := .tuple #[.int .i64 (2 * (H : Int) + (O : Int)), .slice (some ⟨b, o + k, none⟩) (n - k) (C - k), .int .i64 0]) (by simp [results, Tryz.results51, go_sem]) rfl ?_
      rw [HS.out]
      exact rpost_tail HV.out hkn (by omega) _
  · obtain ⟨r1, r2, r3⟩ := res_bad (k := k) (top := T63) (z := z) (e := 0) (Or.inr ⟨rfl, by omega⟩)
    rw [r1, r2, r3]
    have t2 : decide ((4611686018427387903 : Int) < ((val z k / 2 : Nat) : Int)) = true := by
      have : ¬ ¬ 4611686018427387903 < val z k / 2 := fun q => htop (half_top.2 q)
      simp; omega
    clear h hnn hr hl hvt htop r1 r2 r3
    obtain ⟨H, hH⟩ : ∃ H, H = val z k / 2 := ⟨_, rfl⟩
    have HHH := Lib.hid hH
    rw [← hH] at t2
    clear hH
    go_enter Tryz.func51, Tryz.ntmps51
    go_wp2_with fail
    refine (run_any _ n C z k 0 _ HV.out HD.out).mono ?_
    rintro e' w' ⟨rfl, rfl⟩
    go_wp2_with fail
    refine (halves_any _ k C z _ HF.out (by omega) (by omega) HT.out).mono ?_
    rintro e' w' ⟨rfl, rfl⟩
    rw [← HHH.out]
    go_wp2
    refine bodyPost_ret (v := .tuple #[.int .i64 0, .slice (some ⟨b, o, none⟩) n C, .int .i64 7]) (by simp [results, Tryz.results51, go_sem]) rfl ?_
    exact rpost_all0 rfl HV.out HNN.out
end Go.Proofs.YteleknojohnlbaaGreat

namespace Go.Proofs.YteleknojohnlbaaGreat
open Go.RowKit
set_option linter.unusedVariables false
set_option maxRecDepth 100000
set_option linter.unusedSimpArgs false

theorem w11_any (n : Int) (w : World) : Calls Tryz.prog 44 #[.int .i64 n] w fun e w' => e = .returned (.bool (wordS n)) ∧ w = w' := by
  by_cases h1 : 0 ≤ n
  · by_cases h2 : n ≤ 4294967295
    · have HE := Lib.hid (show wordS n = true from inB_true.2 ⟨h1, h2⟩)
      have t1 : decide (0 ≤ n) = true := decide_eq_true h1
      have t2 : decide (n ≤ 4294967295) = true := decide_eq_true h2
      clear h1 h2
      go_enter Tryz.func44, Tryz.ntmps44
      go_wp2
      go_ret
      exact ⟨ret_bool HE.out.symm, rfl⟩
    · have HE := Lib.hid (show wordS n = false from decide_eq_false fun q => h2 q.2)
      have t1 : decide (0 ≤ n) = true := decide_eq_true h1
      have t2 : decide (n ≤ 4294967295) = false := decide_eq_false h2
      clear h1 h2
      go_enter Tryz.func44, Tryz.ntmps44
      go_wp2
      go_ret
      exact ⟨ret_bool HE.out.symm, rfl⟩
  · have HE := Lib.hid (show wordS n = false from decide_eq_false fun q => h1 q.1)
    have t1 : decide (0 ≤ n) = false := decide_eq_false h1
    clear h1
    go_enter Tryz.func44, Tryz.ntmps44
    go_wp2
    go_ret
    exact ⟨ret_bool HE.out.symm, rfl⟩
end Go.Proofs.YteleknojohnlbaaGreat

namespace Go.Proofs.YteleknojohnlbaaGreat
open Go.ChangeShapes Go.WideShapes Go.ChangeAt Go.RowKit Go.Deep
set_option linter.unusedVariables false
set_option maxRecDepth 100000

/-- The reach of a field that is a row, in a struct by value. -/
theorem reach_part {H : Type} {P : Program} {ts : List TypeId} {ds : List (DataW H)} (h : (DataW.weightsEach P ts ds).all (· ≤ reachBytes) = true) {j k : Nat} {t s q : TypeId} {fs : Array Field} {parts e' sp' : List (DataW H)}
    (ht : ts[j]? = some t) (hd : ds[j]? = some (.agg parts)) (hs : P.underlying t = some (.struct fs)) (hf : (fs.toList.map (·.type))[k]? = some s) (hp : parts[k]? = some (.slice e' sp')) (hu2 : P.underlying s = some (.slice q)) : (e'.length + sp'.length) * P.bytesOf q ≤ reachBytes := by
  refine of_decide_eq_true (List.all_eq_true.1 h _ (DataW.weights_mem_each ht hd _ ?_))
  simp only [DataW.weights, hs]
  exact DataW.weights_mem_each hf hp _ (by simp [DataW.weights, hu2])
theorem cellsPc : Tryz.prog.cellsOf 26 = 7 := by kernel_rfl
theorem open_piece {H : Type} {enc : TypeId × Value → H} {W : World} {v : Value} {d : DataW H} {p : List MemPlace} {b0 : Nat} {r : Reach} (hv : Value.okWide Tryz.prog W r b0 26 v) (h : DataW.Trod enc Tryz.prog W 0 (fun _ => true) true 26 v d p)
    (s1 : ∀ parts e' sp', d = .agg parts → parts[6]? = some (.slice e' sp') → (e'.length + sp'.length) * 1 ≤ reachBytes) : ∃ (q : Pn) (A : Option Addr) (C : Nat), PcIs W q (.slice A q.B.length C) ∧ v = .agg (pcC q (.slice A q.B.length C)) := by
  simp only [Value.okWide, Tryz.underlying26] at hv
  obtain ⟨xs, rfl, h2, _⟩ := hv
  obtain ⟨fuel, hf⟩ := h
  obtain ⟨ys, n', hn', hy, hlen', hyl, hfl⟩ := DataW.trod_struct Tryz.underlying26 hf
  obtain ⟨l⟩ := xs
  have hlen7 : l.length = 7 := by
    have : l.length = Tryz.prog.cellsOf 26 := by simpa using h2
    exact this.trans cellsPc
  match l, hlen7 with
  | [x0, x1, x2, x3, x4, x5, x6], _ =>
    have g0 : DataW.trod enc Tryz.prog W 0 (fun _ => true) true n' /-t-/3 [x0] = ys[0]? := hfl 0 _ rfl
    have g1 : DataW.trod enc Tryz.prog W 0 (fun _ => true) true n' /-t-/3 [x1] = ys[1]? := hfl 1 _ rfl
    have g2 : DataW.trod enc Tryz.prog W 0 (fun _ => true) true n' /-t-/3 [x2] = ys[2]? := hfl 2 _ rfl
    have g3 : DataW.trod enc Tryz.prog W 0 (fun _ => true) true n' /-t-/3 [x3] = ys[3]? := hfl 3 _ rfl
    have g4 : DataW.trod enc Tryz.prog W 0 (fun _ => true) true n' /-t-/3 [x4] = ys[4]? := hfl 4 _ rfl
    have g5 : DataW.trod enc Tryz.prog W 0 (fun _ => true) true n' /-t-/3 [x5] = ys[5]? := hfl 5 _ rfl
    have g6 : DataW.trod enc Tryz.prog W 0 (fun _ => true) true n' /-t-/24 [x6] = ys[6]? := hfl 6 _ rfl
    have hys : ys.length = 7 := hyl
    match ys, hys with
    | [y0, y1, y2, y3, y4, y5, y6], _ =>
      obtain ⟨a0, e0, _, w0⟩ := DataW.trod_int Tryz.underlying3 g0
      obtain ⟨a1, e1, _, w1⟩ := DataW.trod_int Tryz.underlying3 g1
      obtain ⟨a2, e2, _, w2⟩ := DataW.trod_int Tryz.underlying3 g2
      obtain ⟨a3, e3, _, w3⟩ := DataW.trod_int Tryz.underlying3 g3
      obtain ⟨a4, e4, _, w4⟩ := DataW.trod_int Tryz.underlying3 g4
      obtain ⟨a5, e5, _, w5⟩ := DataW.trod_int Tryz.underlying3 g5
      have g6' : DataW.trod enc Tryz.prog W 0 (fun _ => true) true n' /-t-/24 [x6] = some y6 := g6
      simp only [Prod.mk.injEq] at hy
      obtain ⟨n, z, hr⟩ := row_of g6' (fun elems spare e => s1 _ elems spare hy.1 (by simpa using e))
      simp only [List.cons.injEq, and_true] at e0 e1 e2 e3 e4 e5
      obtain ⟨A, C, e6, _⟩ := id hr
      subst e6
      have hbz := hr.bytes
      have hl : (rowL n z).length = n := by unfold rowL; simp
      refine ⟨⟨a0, a1, a2, a3, a4, a5, rowL n z⟩, A, C, ⟨?_, rowL_b hbz⟩, ?_⟩
      · show RowV W (.slice A (rowL n z).length C) (rowL n z).length (Cod.litZ (rowL n z))
        rw [hl]
        exact hr.congr fun c hc => (rowL_litz n z hc).symm
      · rw [e0, e1, e2, e3, e4, e5]
        show Value.agg _ = Value.agg (pcC _ (.slice A (rowL n z).length C))
        rw [hl]
        rfl
#print axioms open_piece
end Go.Proofs.YteleknojohnlbaaGreat
namespace Go.Proofs.YteleknojohnlbaaGreat
open Go.RowKit Go.Shelf Cod
set_option linter.unusedVariables false
set_option maxRecDepth 100000

theorem one_owned (w : World) {x : Int} {y : Nat} (h : x = (y : Int)) : (w.alloc (.cells #[.int .u8 x] /-t-/5)).ownsRow w.heap.size /-t-/5 1 (.slice (some ⟨w.heap.size, 0, none⟩) 1 1) 1 (bytesL 1 (Cod.litZ [y])) := by
  subst h
  exact ⟨rfl, Or.inr ⟨w.heap.size, 1, #[.int .u8 (y : Int)], rfl, Nat.le_refl _, heap_alloc_new w _, Nat.le_refl _, (by unfold maxLen; omega), rfl, rfl⟩⟩
def DigAt (half : Nat) : Prop := ∀ (odd : Nat) (w : World), odd ≤ 1 → Calls Tryz.prog 78 #[.int .i64 (half : Int), .int .i64 (odd : Int)] w (NewL (digs (2 * half + odd)).length (Cod.litZ (digs (2 * half + odd))) w)
set_option maxHeartbeats 400000 in
theorem rnum_of (n : Nat) (hn : n ≤ 9223372036854775807) (h : DigAt (n / 2)) (w : World) : Calls Tryz.prog 45 #[.int .i64 (n : Int)] w (NewL (digs n).length (Cod.litZ (digs n)) w) := by
  have H := Lib.hid (h (n % 2) w (by omega))
  rw [show 2 * (n / 2) + n % 2 = n by omega] at H
  have e1 : ((n / 2 : Nat) : Int) = (n : Int) / 2 := by omega
  have e2 : ((n % 2 : Nat) : Int) = (n : Int) % 2 := by omega
  rw [e1, e2] at H
  clear h e1 e2
  go_enter Tryz.func45, Tryz.ntmps45
  go_wp2_with fail
  refine H.out.mono ?_
  rintro e w1 ⟨v, rfl, h1, h2⟩
  have H1 := Lib.hid h1
  have H2 := Lib.hid h2
  clear h1 h2
  go_wp2
  go_ret
  exact ⟨_, rfl, H1.out, H2.out⟩
set_option maxHeartbeats 1000000 in
theorem rdigits_all (half : Nat) : half ≤ 9223372036854775807 → DigAt half := by
  induction half using Nat.strongRecOn with
  | _ half ih =>
    intro hh odd w ho
    by_cases hs : half < 64
    · rw [digs_small (show 2 * half + odd < 128 by omega)]
      have HO := Lib.hid (one_owned w (x := 2 * (half : Int) + (odd : Int)) (y := 2 * half + odd) (by omega))
      have t1 : decide ((half : Int) < 64) = true := by simp; omega
      clear ih
      go_enter Tryz.func78, Tryz.ntmps78
      go_wp2
      go_ret
      exact ⟨_, rfl, HO.out, (Ch.refl _ w).alloc _ _⟩
    · have t1 : decide ((half : Int) < 64) = false := by simp; omega
      have HN := Lib.hid (fun w : World => rnum_of (half / 64) (by omega) (ih (half / 64 / 2) (by omega) (by omega)) w)
      have HD := Lib.hid (digs_big (n := 2 * half + odd) (by omega))
      rw [show (2 * half + odd) % 128 + 128 = 2 * (half % 64) + odd + 128 by omega, show (2 * half + odd) / 128 = half / 64 by omega] at HD
      have e1 : ((half / 64 : Nat) : Int) = (half : Int) / 64 := by omega
      have HO := Lib.hid (one_owned w (x := 2 * ((half : Int) % 64) + (odd : Int) + 128) (y := 2 * (half % 64) + odd + 128) (by omega))
      have hlen := digs_len10 (n := half / 64) (by omega)
      clear ih
      go_enter Tryz.func78, Tryz.ntmps78
      go_wp2_with fail
      rw [← e1]
      refine (HN.out _).mono ?_
      rintro e w1 ⟨v, rfl, h1, h2⟩
      have hr := ownsRow_rowV h1 (by omega) (fun c _ => litZ_b (digs_b _) c)
      obtain ⟨v2, w2, hr2, ho2, hg2, _⟩ := app_row (ownsRow_ch HO.out h2) (by have := h2.size; simp at this; omega) hr (by omega)
      have hlit : bytesL (1 + (digs (half / 64)).length) (jnZ 1 (Cod.litZ [2 * (half % 64) + odd + 128]) (Cod.litZ (digs (half / 64)))) = bytesL (digs (2 * half + odd)).length (Cod.litZ (digs (2 * half + odd))) := by
        rw [HD.out, List.length_cons, Nat.add_comm 1]
        exact bytesL_congr fun c hc => litZ_app [2 * (half % 64) + odd + 128] _ c
      have hl2 : 1 + (digs (half / 64)).length = (digs (2 * half + odd)).length := by rw [HD.out, List.length_cons, Nat.add_comm]
      rw [hlit, hl2] at ho2
      have HR := Lib.hid hr2
      have H2 := Lib.hid ho2
      have HC := Lib.hid ((((Ch.refl (fun _ => False) w).alloc #[.int .u8 (2 * ((half : Int) % 64) + (odd : Int) + 128)] /-t-/5).trans h2).grown hg2 (fun i e => Or.inr (World.ownsRow.lt (ownsRow_ch HO.out h2) i e).1))
      clear hr hr2 ho2 hg2 h1 h2 hlit hl2 hlen
      go_wp2_with (at_builtin; refine wpList_app_of _ rfl (.tmp 20) (.tmp 23) rfl rfl _ _ v2 w2 rfl rfl HR.out ?_)
      go_ret
      exact ⟨_, rfl, H2.out, HC.out⟩
theorem rnum_any (n : Nat) (hn : n ≤ 9223372036854775807) (w : World) : Calls Tryz.prog 45 #[.int .i64 (n : Int)] w (NewL (digs n).length (Cod.litZ (digs n)) w) := rnum_of n hn (rdigits_all _ (by omega)) w
#print axioms rnum_any
/-! ### Bytes -/
set_option maxHeartbeats 400000 in
theorem rbytes_long (A : Option Addr) (l C : Nat) (hl : 4096 < l) (hl2 : l ≤ 140737488351232) (w : World) : Calls Tryz.prog 46 #[.slice A l C] w fun e w' => e = .returned (.tuple #[.slice none 0 0, .int .i64 2]) ∧ w = w' := by
  have t1 : decide ((4096 : Int) < (l : Int)) = true := by simp; omega
  go_enter Tryz.func46, Tryz.ntmps46
  go_wp2
  go_ret2
  exact ⟨rfl, rfl⟩
set_option maxHeartbeats 400000 in
theorem rbytes_any (A : Option Addr) (l C : Nat) (z : Nat → Nat) (w : World) (hl : l ≤ 4096) (h : RowV w (.slice A l C) l z) : Calls Tryz.prog 46 #[.slice A l C] w fun e w' => ∃ v, e = .returned (.tuple #[v, .int .i64 0]) ∧ w'.ownsRow w.heap.size /-t-/5 1 v (byL l z).length (bytesL (byL l z).length (Cod.litZ (byL l z))) ∧ Ch (fun _ => False) w w' := by
  have H := Lib.hid (rnum_any l (by omega) w)
  have HX := Lib.hid h
  have t1 : decide ((4096 : Int) < (l : Int)) = false := by simp; omega
  clear h
  go_enter Tryz.func46, Tryz.ntmps46
  go_wp2_with fail
  refine H.out.mono ?_
  rintro e w1 ⟨v1, rfl, h1, h2⟩
  have hlen := digs_len10 (n := l) (by omega)
  obtain ⟨v2, w2, hr2, ho2, hg2, _⟩ := app_row h1 h2.size (HX.out.gr h2) (by omega)
  rw [app_lit, ← rowL_len l z, ← List.length_append] at ho2
  have HR := Lib.hid hr2
  have H2 := Lib.hid (show w2.ownsRow w.heap.size /-t-/5 1 v2 (byL l z).length (bytesL (byL l z).length (Cod.litZ (byL l z))) by unfold byL; rw [rowL_len] at ho2; exact ho2)
  have HC := Lib.hid (h2.grown hg2 (fun i e => Or.inr (World.ownsRow.lt h1 i e).1))
  clear hr2 ho2 hg2 h1 h2 hlen
  go_wp2_with (at_builtin; refine wpList_app_of _ rfl (.tmp 9) (.tmp 10) rfl rfl _ _ v2 w2 rfl rfl HR.out ?_)
  go_ret2
  exact ⟨_, rfl, H2.out, HC.out⟩
#print axioms rbytes_any
end Go.Proofs.YteleknojohnlbaaGreat
namespace Go.Proofs.YteleknojohnlbaaGreat
open Go.RowKit
set_option linter.unusedVariables false
set_option maxRecDepth 100000
set_option linter.unusedSimpArgs false

/-! ### May -/
set_option maxHeartbeats 6400000 in
theorem r11may_any (p : Pn) (A : Option Addr) (C : Nat) (w : World) (hl : p.B.length ≤ 140737488351232) : Calls Tryz.prog 19 #[.agg (pcC p (.slice A p.B.length C))] w (Ans (.bool (mayP p)) w) := by
  obtain ⟨w1, H, hR⟩ := boxR w (pcC p (.slice A p.B.length C)) 26
  obtain ⟨x0, x1, x2, x3, x4, x5, x6⟩ := pc_x hR.cx
  have HP := Lib.hid (show mayP p = (wordsP p && (decide (p.fr ≤ p.seq) && (inB p.ofn 1 64 && (inB p.ix 0 (p.ofn - 1) && decide (p.B.length ≤ 200))))) from rfl)
  have HW := Lib.hid (show wordsP p = (wordS p.seq && (wordS p.ep && (wordS p.fr && wordS p.ch))) from rfl)
  have HR := Lib.hid hR
  obtain ⟨n, hn⟩ : ∃ n, n = p.B.length := ⟨_, rfl⟩
  rw [← hn] at HP x6 hl HR ⊢
  clear hR hn
  cases t0 : wordS p.seq
  · have HE := Lib.hid (show mayP p = false by rw [HP.out, HW.out, t0]; rfl)
    clear HP HW
    go_enter Tryz.func19, Tryz.ntmps19
    go_wp2_with (first | ((with_reducible refine wpList_isOp (.box 26 (.tmp 0)) rfl ?_); refine wpList_boxing _ w1 rfl 26 (.tmp 0) rfl (pcC p (.slice A n C)) H rfl (by exact HR.out.sz) (by exact HR.out.al) ?_) | (go_at_call 44; refine (w11_any _ _).mono ?_; rintro e w' ⟨rfl, rfl⟩))
    go_ret
    exact ⟨ret_bool HE.out.symm, HR.out.ch⟩
  cases t1 : wordS p.ep
  · have HE := Lib.hid (show mayP p = false by rw [HP.out, HW.out, t0, t1]; rfl)
    clear HP HW
    go_enter Tryz.func19, Tryz.ntmps19
    go_wp2_with (first | ((with_reducible refine wpList_isOp (.box 26 (.tmp 0)) rfl ?_); refine wpList_boxing _ w1 rfl 26 (.tmp 0) rfl (pcC p (.slice A n C)) H rfl (by exact HR.out.sz) (by exact HR.out.al) ?_) | (go_at_call 44; refine (w11_any _ _).mono ?_; rintro e w' ⟨rfl, rfl⟩))
    go_ret
    exact ⟨ret_bool HE.out.symm, HR.out.ch⟩
  cases t2 : wordS p.fr
  · have HE := Lib.hid (show mayP p = false by rw [HP.out, HW.out, t0, t1, t2]; rfl)
    clear HP HW
    go_enter Tryz.func19, Tryz.ntmps19
    go_wp2_with (first | ((with_reducible refine wpList_isOp (.box 26 (.tmp 0)) rfl ?_); refine wpList_boxing _ w1 rfl 26 (.tmp 0) rfl (pcC p (.slice A n C)) H rfl (by exact HR.out.sz) (by exact HR.out.al) ?_) | (go_at_call 44; refine (w11_any _ _).mono ?_; rintro e w' ⟨rfl, rfl⟩))
    go_ret
    exact ⟨ret_bool HE.out.symm, HR.out.ch⟩
  cases t3 : wordS p.ch
  · have HE := Lib.hid (show mayP p = false by rw [HP.out, HW.out, t0, t1, t2, t3]; rfl)
    clear HP HW
    go_enter Tryz.func19, Tryz.ntmps19
    go_wp2_with (first | ((with_reducible refine wpList_isOp (.box 26 (.tmp 0)) rfl ?_); refine wpList_boxing _ w1 rfl 26 (.tmp 0) rfl (pcC p (.slice A n C)) H rfl (by exact HR.out.sz) (by exact HR.out.al) ?_) | (go_at_call 44; refine (w11_any _ _).mono ?_; rintro e w' ⟨rfl, rfl⟩))
    go_ret
    exact ⟨ret_bool HE.out.symm, HR.out.ch⟩
  have HWT := Lib.hid (show wordsP p = true by rw [HW.out, t0, t1, t2, t3]; rfl)
  by_cases q2 : p.fr ≤ p.seq
  case neg =>
    have t4 : decide (p.fr ≤ p.seq) = false := decide_eq_false q2
    have HE := Lib.hid (show mayP p = false by rw [HP.out, HWT.out, t4]; rfl)
    clear HP HW
    go_enter Tryz.func19, Tryz.ntmps19
    go_wp2_with (first | ((with_reducible refine wpList_isOp (.box 26 (.tmp 0)) rfl ?_); refine wpList_boxing _ w1 rfl 26 (.tmp 0) rfl (pcC p (.slice A n C)) H rfl (by exact HR.out.sz) (by exact HR.out.al) ?_) | (go_at_call 44; refine (w11_any _ _).mono ?_; rintro e w' ⟨rfl, rfl⟩))
    go_ret
    exact ⟨ret_bool HE.out.symm, HR.out.ch⟩
  have t4 : decide (p.fr ≤ p.seq) = true := decide_eq_true q2
  by_cases q3 : 1 ≤ p.ofn
  case neg =>
    have t5 : decide (1 ≤ p.ofn) = false := decide_eq_false q3
    have HE := Lib.hid (show mayP p = false by rw [HP.out, HWT.out, t4, show inB p.ofn 1 64 = false from decide_eq_false fun q => q3 q.1]; rfl)
    clear HP HW
    go_enter Tryz.func19, Tryz.ntmps19
    go_wp2_with (first | ((with_reducible refine wpList_isOp (.box 26 (.tmp 0)) rfl ?_); refine wpList_boxing _ w1 rfl 26 (.tmp 0) rfl (pcC p (.slice A n C)) H rfl (by exact HR.out.sz) (by exact HR.out.al) ?_) | (go_at_call 44; refine (w11_any _ _).mono ?_; rintro e w' ⟨rfl, rfl⟩))
    go_ret
    exact ⟨ret_bool HE.out.symm, HR.out.ch⟩
  have t5 : decide (1 ≤ p.ofn) = true := decide_eq_true q3
  by_cases q4 : p.ofn ≤ 64
  case neg =>
    have t6 : decide (p.ofn ≤ 64) = false := decide_eq_false q4
    have HE := Lib.hid (show mayP p = false by rw [HP.out, HWT.out, t4, show inB p.ofn 1 64 = false from decide_eq_false fun q => q4 q.2]; rfl)
    clear HP HW
    go_enter Tryz.func19, Tryz.ntmps19
    go_wp2_with (first | ((with_reducible refine wpList_isOp (.box 26 (.tmp 0)) rfl ?_); refine wpList_boxing _ w1 rfl 26 (.tmp 0) rfl (pcC p (.slice A n C)) H rfl (by exact HR.out.sz) (by exact HR.out.al) ?_) | (go_at_call 44; refine (w11_any _ _).mono ?_; rintro e w' ⟨rfl, rfl⟩))
    go_ret
    exact ⟨ret_bool HE.out.symm, HR.out.ch⟩
  have t6 : decide (p.ofn ≤ 64) = true := decide_eq_true q4
  have HQ4 := Lib.hid (show inB p.ofn 1 64 = true from inB_true.2 ⟨q3, q4⟩)
  by_cases q5 : 0 ≤ p.ix
  case neg =>
    have t7 : decide (0 ≤ p.ix) = false := decide_eq_false q5
    have HE := Lib.hid (show mayP p = false by rw [HP.out, HWT.out, t4, HQ4.out, show inB p.ix 0 (p.ofn - 1) = false from decide_eq_false fun q => q5 q.1]; rfl)
    clear HP HW
    go_enter Tryz.func19, Tryz.ntmps19
    go_wp2_with (first | ((with_reducible refine wpList_isOp (.box 26 (.tmp 0)) rfl ?_); refine wpList_boxing _ w1 rfl 26 (.tmp 0) rfl (pcC p (.slice A n C)) H rfl (by exact HR.out.sz) (by exact HR.out.al) ?_) | (go_at_call 44; refine (w11_any _ _).mono ?_; rintro e w' ⟨rfl, rfl⟩))
    go_ret
    exact ⟨ret_bool HE.out.symm, HR.out.ch⟩
  have t7 : decide (0 ≤ p.ix) = true := decide_eq_true q5
  by_cases q6 : p.ix < p.ofn
  case neg =>
    have t8 : decide (p.ix < p.ofn) = false := decide_eq_false q6
    have HE := Lib.hid (show mayP p = false by rw [HP.out, HWT.out, t4, HQ4.out, show inB p.ix 0 (p.ofn - 1) = false from decide_eq_false fun q => q6 (by omega)]; rfl)
    clear HP HW
    go_enter Tryz.func19, Tryz.ntmps19
    go_wp2_with (first | ((with_reducible refine wpList_isOp (.box 26 (.tmp 0)) rfl ?_); refine wpList_boxing _ w1 rfl 26 (.tmp 0) rfl (pcC p (.slice A n C)) H rfl (by exact HR.out.sz) (by exact HR.out.al) ?_) | (go_at_call 44; refine (w11_any _ _).mono ?_; rintro e w' ⟨rfl, rfl⟩))
    go_ret
    exact ⟨ret_bool HE.out.symm, HR.out.ch⟩
  have t8 : decide (p.ix < p.ofn) = true := decide_eq_true q6
  have HQ6 := Lib.hid (show inB p.ix 0 (p.ofn - 1) = true from inB_true.2 ⟨q5, by omega⟩)
  by_cases q7 : n ≤ 200
  case neg =>
    have t9 : decide ((n : Int) ≤ 200) = false := by simp; omega
    have HE := Lib.hid (show mayP p = false by rw [HP.out, HWT.out, t4, HQ4.out, HQ6.out, decide_eq_false q7]; rfl)
    clear HP HW
    go_enter Tryz.func19, Tryz.ntmps19
    go_wp2_with (first | ((with_reducible refine wpList_isOp (.box 26 (.tmp 0)) rfl ?_); refine wpList_boxing _ w1 rfl 26 (.tmp 0) rfl (pcC p (.slice A n C)) H rfl (by exact HR.out.sz) (by exact HR.out.al) ?_) | (go_at_call 44; refine (w11_any _ _).mono ?_; rintro e w' ⟨rfl, rfl⟩))
    go_ret
    exact ⟨ret_bool HE.out.symm, HR.out.ch⟩
  have t9 : decide ((n : Int) ≤ 200) = true := by simp; omega
  have HE := Lib.hid (show mayP p = true by rw [HP.out, HWT.out, t4, HQ4.out, HQ6.out, decide_eq_true q7]; rfl)
  clear HP HW
  go_enter Tryz.func19, Tryz.ntmps19
  go_wp2_with (first | ((with_reducible refine wpList_isOp (.box 26 (.tmp 0)) rfl ?_); refine wpList_boxing _ w1 rfl 26 (.tmp 0) rfl (pcC p (.slice A n C)) H rfl (by exact HR.out.sz) (by exact HR.out.al) ?_) | (go_at_call 44; refine (w11_any _ _).mono ?_; rintro e w' ⟨rfl, rfl⟩))
  go_ret
  exact ⟨ret_bool HE.out.symm, HR.out.ch⟩
#print axioms r11may_any

/-! ### Sector -/
theorem bodyR_split (p : Pn) : ∀ j, j ≤ 4 → bodyR p = prefR p j ++ restR p j
  | 0, _ => (restR_all p).symm
  | j + 1, h => by rw [bodyR_split p j (by omega), restR_next p (by omega), prefR_snoc, List.append_assoc]
theorem bodyR_next (p : Pn) {j : Nat} (h : j < 4) (c : Nat) (hc : c < (Cod.digs (numR p j).toNat).length) : Cod.litZ (bodyR p) ((prefR p j).length + c) = Cod.litZ (Cod.digs (numR p j).toNat) c := by
  rw [bodyR_split p j (by omega), flat_right, restR_next p h, flat_left hc]
theorem bodyR_bytes (p : Pn) (c : Nat) : Cod.litZ (bodyR p) ((prefR p 4).length + c) = Cod.litZ (byR p) c := flat_right _ _ _
theorem byR_b {p : Pn} (h : ∀ x ∈ p.B, x < 256) : ∀ c ∈ byR p, c < 256 := fun c hc => by
  unfold byR at hc
  rcases List.mem_append.1 hc with q | q
  · exact Cod.digs_b _ c q
  · exact h c q
theorem num_nat {p : Pn} (h : mayP p = true) (j : Nat) : numR p j = (((numR p j).toNat : Nat) : Int) := by have := numR_in h j; omega
theorem out_new {w w' : World} {p : Pn} {u : Value} (h : w'.ownsRow w.heap.size /-t-/5 1 u (Cod.digs (numR p 0).toNat).length (bytesL (Cod.digs (numR p 0).toNat).length (Cod.litZ (Cod.digs (numR p 0).toNat)))) (hc : Ch (fun _ => False) w w') : OutSt w (Cod.litZ (bodyR p)) u (prefR p 1).length w' := by
  have e : (prefR p 1).length = (Cod.digs (numR p 0).toNat).length := by rw [prefR_snoc, List.length_append]; show 0 + _ = _; omega
  refine ⟨?_, hc⟩
  rw [e, bytesL_congr (y := Cod.litZ (Cod.digs (numR p 0).toNat)) fun c hcc => by
    have := bodyR_next p (show 0 < 4 by omega) c hcc
    rw [show (prefR p 0).length = 0 from rfl, Nat.zero_add] at this
    exact this]
  exact h
set_option maxHeartbeats 12800000 in
theorem r11sec_any (vol : Int) (g : Ge) (mir : Int) (p : Pn) (V : Value) (w : World) (hv : N64 vol) (h : PcIs w p V) : Calls Tryz.prog 13 #[.int .i64 vol, .agg (geC g), .int .i64 mir, .agg (pcC p V)] w (SecRPost vol g mir p w) := by
  obtain ⟨A, C, hV, hVl, _⟩ := id h.row
  subst hV
  obtain ⟨w0, HG, hRG⟩ := geR w g
  obtain ⟨w1, H, hR⟩ := boxR w0 (pcC p (.slice A p.B.length C)) 26
  have HLp := Lib.hid (load_pc hR.cx)
  have HM := Lib.hid (r11may_any p A C w1 hVl.1)
  have HCH := Lib.hid (hRG.ch.trans hR.ch)
  have HPX := Lib.hid (pc_x hR.cx)
  have HGX := Lib.hid (hRG.x.gr hR.ch)
  have HIS := Lib.hid ((h.gr hRG.ch).gr hR.ch)
  have HR := Lib.hid hR
  have HRG := Lib.hid hRG
  have HVL := Lib.hid hv
  clear hR hRG h hv hVl
  cases hm : mayP p
  · have HN := Lib.hid (rok_may (vol := vol) (g := g) (mir := mir) hm)
    have HQ := Lib.hid (show True from trivial)
    rw [hm] at HM
    clear hm
    go_enter Tryz.func13, Tryz.ntmps13
    go_wp2_with (first | ((with_reducible refine wpList_isOp (.box 23 (.tmp 1)) rfl ?_); refine wpList_boxing _ w0 rfl 23 (.tmp 1) rfl (geC g) HG rfl (by exact HRG.out.sz) (by exact HRG.out.al) ?_) | ((with_reducible refine wpList_isOp (.box 26 (.tmp 3)) rfl ?_); refine wpList_boxing _ w1 rfl 26 (.tmp 3) rfl (pcC p (.slice A p.B.length C)) H rfl (by exact HR.out.sz) (by exact HR.out.al) ?_) | ((with_reducible refine wpList_isOp (.load 26 (.tmp 7)) rfl ?_); refine wpList_loading _ rfl 26 (.tmp 7) rfl (.agg (pcC p (.slice A p.B.length C))) ⟨H, 0, none⟩ rfl (by exact HLp.out) ?_) | (go_at_call 19; refine HM.out.mono ?_; rintro e w2 ⟨rfl, hc2⟩; obtain ⟨x0, x1, x2, x3⟩ := HGX.out.gr hc2) | (go_at_call 38; refine (rgmay_any g _).mono ?_; rintro e w3 ⟨rfl, hc3⟩; first | rw [HQ.out] | skip) | (go_at_call 44; refine (w11_any _ _).mono ?_; rintro e w' ⟨rfl, rfl⟩))
    go_ret2
    exact secRPost_no HN.out ((HCH.out.trans hc2).trans hc3)
  rw [hm] at HM
  cases hg : mayG g
  · have HN := Lib.hid (rok_geo (vol := vol) (mir := mir) (p := p) hg)
    have HQ := Lib.hid hg
    clear hm hg
    go_enter Tryz.func13, Tryz.ntmps13
    go_wp2_with (first | ((with_reducible refine wpList_isOp (.box 23 (.tmp 1)) rfl ?_); refine wpList_boxing _ w0 rfl 23 (.tmp 1) rfl (geC g) HG rfl (by exact HRG.out.sz) (by exact HRG.out.al) ?_) | ((with_reducible refine wpList_isOp (.box 26 (.tmp 3)) rfl ?_); refine wpList_boxing _ w1 rfl 26 (.tmp 3) rfl (pcC p (.slice A p.B.length C)) H rfl (by exact HR.out.sz) (by exact HR.out.al) ?_) | ((with_reducible refine wpList_isOp (.load 26 (.tmp 7)) rfl ?_); refine wpList_loading _ rfl 26 (.tmp 7) rfl (.agg (pcC p (.slice A p.B.length C))) ⟨H, 0, none⟩ rfl (by exact HLp.out) ?_) | (go_at_call 19; refine HM.out.mono ?_; rintro e w2 ⟨rfl, hc2⟩; obtain ⟨x0, x1, x2, x3⟩ := HGX.out.gr hc2) | (go_at_call 38; refine (rgmay_any g _).mono ?_; rintro e w3 ⟨rfl, hc3⟩; first | rw [HQ.out] | skip) | (go_at_call 44; refine (w11_any _ _).mono ?_; rintro e w' ⟨rfl, rfl⟩))
    go_ret2
    exact secRPost_no HN.out ((HCH.out.trans hc2).trans hc3)
  cases tv : wordS vol
  · have HN := Lib.hid (show rokB vol g mir p = false by unfold rokB; rw [tv]; simp)
    have HQ := Lib.hid hg
    clear hm hg
    go_enter Tryz.func13, Tryz.ntmps13
    go_wp2_with (first | ((with_reducible refine wpList_isOp (.box 23 (.tmp 1)) rfl ?_); refine wpList_boxing _ w0 rfl 23 (.tmp 1) rfl (geC g) HG rfl (by exact HRG.out.sz) (by exact HRG.out.al) ?_) | ((with_reducible refine wpList_isOp (.box 26 (.tmp 3)) rfl ?_); refine wpList_boxing _ w1 rfl 26 (.tmp 3) rfl (pcC p (.slice A p.B.length C)) H rfl (by exact HR.out.sz) (by exact HR.out.al) ?_) | ((with_reducible refine wpList_isOp (.load 26 (.tmp 7)) rfl ?_); refine wpList_loading _ rfl 26 (.tmp 7) rfl (.agg (pcC p (.slice A p.B.length C))) ⟨H, 0, none⟩ rfl (by exact HLp.out) ?_) | (go_at_call 19; refine HM.out.mono ?_; rintro e w2 ⟨rfl, hc2⟩; obtain ⟨x0, x1, x2, x3⟩ := HGX.out.gr hc2) | (go_at_call 38; refine (rgmay_any g _).mono ?_; rintro e w3 ⟨rfl, hc3⟩; first | rw [HQ.out] | skip) | (go_at_call 44; refine (w11_any _ _).mono ?_; rintro e w' ⟨rfl, rfl⟩))
    go_ret2
    exact secRPost_no HN.out ((HCH.out.trans hc2).trans hc3)
  by_cases h0 : mir < 0
  · have HN := Lib.hid (rok_mir (vol := vol) (g := g) (p := p) (show mirB mir = false from decide_eq_false fun q => by have := q.1; omega))
    have HQ := Lib.hid hg
    clear hm hg
    go_enter Tryz.func13, Tryz.ntmps13
    go_wp2_with (first | ((with_reducible refine wpList_isOp (.box 23 (.tmp 1)) rfl ?_); refine wpList_boxing _ w0 rfl 23 (.tmp 1) rfl (geC g) HG rfl (by exact HRG.out.sz) (by exact HRG.out.al) ?_) | ((with_reducible refine wpList_isOp (.box 26 (.tmp 3)) rfl ?_); refine wpList_boxing _ w1 rfl 26 (.tmp 3) rfl (pcC p (.slice A p.B.length C)) H rfl (by exact HR.out.sz) (by exact HR.out.al) ?_) | ((with_reducible refine wpList_isOp (.load 26 (.tmp 7)) rfl ?_); refine wpList_loading _ rfl 26 (.tmp 7) rfl (.agg (pcC p (.slice A p.B.length C))) ⟨H, 0, none⟩ rfl (by exact HLp.out) ?_) | (go_at_call 19; refine HM.out.mono ?_; rintro e w2 ⟨rfl, hc2⟩; obtain ⟨x0, x1, x2, x3⟩ := HGX.out.gr hc2) | (go_at_call 38; refine (rgmay_any g _).mono ?_; rintro e w3 ⟨rfl, hc3⟩; first | rw [HQ.out] | skip) | (go_at_call 44; refine (w11_any _ _).mono ?_; rintro e w' ⟨rfl, rfl⟩))
    go_ret2
    exact secRPost_no HN.out ((HCH.out.trans hc2).trans hc3)
  by_cases h1 : 1 < mir
  · have HN := Lib.hid (rok_mir (vol := vol) (g := g) (p := p) (show mirB mir = false from decide_eq_false fun q => by have := q.2; omega))
    have HQ := Lib.hid hg
    clear hm hg
    go_enter Tryz.func13, Tryz.ntmps13
    go_wp2_with (first | ((with_reducible refine wpList_isOp (.box 23 (.tmp 1)) rfl ?_); refine wpList_boxing _ w0 rfl 23 (.tmp 1) rfl (geC g) HG rfl (by exact HRG.out.sz) (by exact HRG.out.al) ?_) | ((with_reducible refine wpList_isOp (.box 26 (.tmp 3)) rfl ?_); refine wpList_boxing _ w1 rfl 26 (.tmp 3) rfl (pcC p (.slice A p.B.length C)) H rfl (by exact HR.out.sz) (by exact HR.out.al) ?_) | ((with_reducible refine wpList_isOp (.load 26 (.tmp 7)) rfl ?_); refine wpList_loading _ rfl 26 (.tmp 7) rfl (.agg (pcC p (.slice A p.B.length C))) ⟨H, 0, none⟩ rfl (by exact HLp.out) ?_) | (go_at_call 19; refine HM.out.mono ?_; rintro e w2 ⟨rfl, hc2⟩; obtain ⟨x0, x1, x2, x3⟩ := HGX.out.gr hc2) | (go_at_call 38; refine (rgmay_any g _).mono ?_; rintro e w3 ⟨rfl, hc3⟩; first | rw [HQ.out] | skip) | (go_at_call 44; refine (w11_any _ _).mono ?_; rintro e w' ⟨rfl, rfl⟩))
    go_ret2
    exact secRPost_no HN.out ((HCH.out.trans hc2).trans hc3)
  have hr : mirB mir = true := inB_true.2 ⟨by omega, by omega⟩
  have HQ := Lib.hid hg
  have HMM := Lib.hid hm
  have HMR := Lib.hid hr
  have hsq := (mayP_iff.1 hm).seq
  obtain ⟨W, hW⟩ : ∃ W, W = g.wal := ⟨_, rfl⟩
  have hsl := slot_in hg hsq.1
  obtain ⟨⟨wa, wb⟩, _⟩ := may_parts hg
  rw [← hW] at hsl wa wb
  obtain ⟨S, hS⟩ : ∃ S, S = p.seq % W := ⟨_, rfl⟩
  obtain ⟨X, hX⟩ : ∃ X, X = mir * W := ⟨_, rfl⟩
  have hX2 : 0 ≤ X ∧ X ≤ 512 := by
    rw [hX]
    obtain rfl | rfl : mir = 0 ∨ mir = 1 := by omega
    · omega
    · omega
  obtain ⟨Y, hY⟩ : ∃ Y, Y = addrR g mir (p.seq % g.wal) := ⟨_, rfl⟩
  have hY2 : 4 + X + S = Y := by rw [hY, hX, hS, hW]; rfl
  rw [← hS] at hsl
  have HE0 : Hid (p.seq.tmod W = S) := Lib.hid (by rw [hS]; exact Int.tmod_eq_emod_of_nonneg hsq.1)
  have HE1 : Hid (IntKind.i64.wrap (mir * W) = X) := Lib.hid (by rw [← hX]; exact wrapI_in (by omega) (by omega))
  have HE2 : Hid (IntKind.i64.wrap (4 + X) = 4 + X) := Lib.hid (wrapI_in (by omega) (by omega))
  have HE3 : Hid (IntKind.i64.wrap (4 + X + S) = Y) := Lib.hid (by rw [hY2]; exact wrapI_in (by omega) (by omega))
  have HWZ := Lib.hid (show ¬ W = 0 by omega)
  have HWW := Lib.hid hW
  have HYY := Lib.hid hY
  have HNI := Lib.hid (numR_in hm)
  obtain ⟨N0, hN0⟩ : ∃ N, N = (numR p 0).toNat := ⟨_, rfl⟩
  obtain ⟨N1, hN1⟩ : ∃ N, N = (numR p 1).toNat := ⟨_, rfl⟩
  obtain ⟨N2, hN2⟩ : ∃ N, N = (numR p 2).toNat := ⟨_, rfl⟩
  obtain ⟨N3, hN3⟩ : ∃ N, N = (numR p 3).toNat := ⟨_, rfl⟩
  have HN0 : Hid (p.fr = (N0 : Int) ∧ N0 = (numR p 0).toNat ∧ N0 ≤ 4294967295) := Lib.hid ⟨by rw [hN0]; exact num_nat hm 0, hN0, by have := numR_in hm 0; omega⟩
  have HN1 : Hid (p.ch = (N1 : Int) ∧ N1 = (numR p 1).toNat ∧ N1 ≤ 4294967295) := Lib.hid ⟨by rw [hN1]; exact num_nat hm 1, hN1, by have := numR_in hm 1; omega⟩
  have HN2 : Hid (p.ix = (N2 : Int) ∧ N2 = (numR p 2).toNat ∧ N2 ≤ 4294967295) := Lib.hid ⟨by rw [hN2]; exact num_nat hm 2, hN2, by have := numR_in hm 2; omega⟩
  have HN3 : Hid (p.ofn = (N3 : Int) ∧ N3 = (numR p 3).toNat ∧ N3 ≤ 4294967295) := Lib.hid ⟨by rw [hN3]; exact num_nat hm 3, hN3, by have := numR_in hm 3; omega⟩
  have HPL := Lib.hid (prefR_len hm)
  have HLEN := Lib.hid (mayP_iff.1 hm).len
  clear hm hg hr hsl hX hX2 hY hY2 wa wb hsq hS hW hN0 hN1 hN2 hN3
  go_enter Tryz.func13, Tryz.ntmps13
  go_wp2_with (first | ((with_reducible refine wpList_isOp (.box 23 (.tmp 1)) rfl ?_); refine wpList_boxing _ w0 rfl 23 (.tmp 1) rfl (geC g) HG rfl (by exact HRG.out.sz) (by exact HRG.out.al) ?_) | ((with_reducible refine wpList_isOp (.box 26 (.tmp 3)) rfl ?_); refine wpList_boxing _ w1 rfl 26 (.tmp 3) rfl (pcC p (.slice A p.B.length C)) H rfl (by exact HR.out.sz) (by exact HR.out.al) ?_) | ((with_reducible refine wpList_isOp (.load 26 (.tmp 7)) rfl ?_); refine wpList_loading _ rfl 26 (.tmp 7) rfl (.agg (pcC p (.slice A p.B.length C))) ⟨H, 0, none⟩ rfl (by exact HLp.out) ?_) | (go_at_call 19; refine HM.out.mono ?_; rintro e w2 ⟨rfl, hc2⟩; obtain ⟨x0, x1, x2, x3⟩ := HGX.out.gr hc2) | (go_at_call 38; refine (rgmay_any g _).mono ?_; rintro e w3 ⟨rfl, hc3⟩; rw [HQ.out]; have HPX3 := Lib.hid ((HPX.out.gr hc2).gr hc3); have y2 := HPX3.out.2.2.1; rw [HN0.out.1] at y2) | (go_at_call 44; refine (w11_any _ _).mono ?_; rintro e w' ⟨rfl, rfl⟩) | fail)
  have HGX3 := Lib.hid ((HGX.out.gr hc2).gr hc3)
  have HIS3 := Lib.hid ((HIS.out.gr hc2).gr hc3)
  have HC3 := Lib.hid ((HCH.out.trans hc2).trans hc3)
  clear hc2 hc3 x0 x1 x2 x3 tv h0 h1
  refine (rnum_any N0 (by have := HN0.out.2.2; omega) w3).mono ?_
  rintro e w4 ⟨u, rfl, q1, q2⟩
  rw [HN0.out.2.1] at q1
  have HO4 := Lib.hid (out_new q1 q2)
  clear q1 q2 y2
  have y := HPX3.out.gr HO4.out.ch
  have y1 := y.2.2.2.1
  rw [HN1.out.1] at y1
  clear y
  go_wp2_with fail
  refine (rnum_any N1 (by have := HN1.out.2.2; omega) _).mono ?_
  rintro e w1a ⟨u1, rfl, q1, q2⟩
  rw [HN1.out.2.1] at q1
  obtain ⟨v1, w1b, hr1, ho1⟩ := (HO4.out.gr q2).app (ownsRow_rowV q1 (by have := digs_len5 (n := (numR p 1).toNat) (by have := HNI.out 1; omega); omega) (fun c _ => Cod.litZ_b (Cod.digs_b _) c)) (bodyR_next p (show 1 < 4 by omega)) (by have := HPL.out (1); have := digs_len5 (n := (numR p 1).toNat) (by have := HNI.out 1; omega); omega)
  rw [← List.length_append, ← prefR_snoc] at ho1
  have HR1 := Lib.hid hr1
  have HO5 := Lib.hid ho1
  clear q1 q2 hr1 ho1 y1
  have y := HPX3.out.gr HO5.out.ch
  have y1 := y.2.2.2.2.1
  rw [HN2.out.1] at y1
  clear y
  go_wp2_with (first | (at_builtin; refine wpList_app_of _ rfl (.tmp 41) (.tmp 44) rfl rfl _ _ v1 w1b rfl rfl HR1.out ?_) | fail)
  refine (rnum_any N2 (by have := HN2.out.2.2; omega) _).mono ?_
  rintro e w2a ⟨u2, rfl, q1, q2⟩
  rw [HN2.out.2.1] at q1
  obtain ⟨v2, w2b, hr2, ho2⟩ := (HO5.out.gr q2).app (ownsRow_rowV q1 (by have := digs_len5 (n := (numR p 2).toNat) (by have := HNI.out 2; omega); omega) (fun c _ => Cod.litZ_b (Cod.digs_b _) c)) (bodyR_next p (show 2 < 4 by omega)) (by have := HPL.out (1 + 1); have := digs_len5 (n := (numR p 2).toNat) (by have := HNI.out 2; omega); omega)
  rw [← List.length_append, ← prefR_snoc] at ho2
  have HR2 := Lib.hid hr2
  have HO6 := Lib.hid ho2
  clear q1 q2 hr2 ho2 y1
  have y := HPX3.out.gr HO6.out.ch
  have y1 := y.2.2.2.2.2.1
  rw [HN3.out.1] at y1
  clear y
  go_wp2_with (first | (at_builtin; refine wpList_app_of _ rfl (.tmp 46) (.tmp 49) rfl rfl _ _ v2 w2b rfl rfl HR2.out ?_) | fail)
  refine (rnum_any N3 (by have := HN3.out.2.2; omega) _).mono ?_
  rintro e w3a ⟨u3, rfl, q1, q2⟩
  rw [HN3.out.2.1] at q1
  obtain ⟨v3, w3b, hr3, ho3⟩ := (HO6.out.gr q2).app (ownsRow_rowV q1 (by have := digs_len5 (n := (numR p 3).toNat) (by have := HNI.out 3; omega); omega) (fun c _ => Cod.litZ_b (Cod.digs_b _) c)) (bodyR_next p (show 3 < 4 by omega)) (by have := HPL.out (1 + 1 + 1); have := digs_len5 (n := (numR p 3).toNat) (by have := HNI.out 3; omega); omega)
  rw [← List.length_append, ← prefR_snoc] at ho3
  have HR3 := Lib.hid hr3
  have HO7 := Lib.hid ho3
  clear q1 q2 hr3 ho3 y1
  have y := HPX3.out.gr HO7.out.ch
  have y1 := y.2.2.2.2.2.2
  clear y
  go_wp2_with (first | (at_builtin; refine wpList_app_of _ rfl (.tmp 51) (.tmp 54) rfl rfl _ _ v3 w3b rfl rfl HR3.out ?_) | fail)
  refine (rbytes_any A p.B.length C (Cod.litZ p.B) w3b (by have := HLEN.out; omega) ((HIS3.out.row).gr HO7.out.ch)).mono ?_
  rintro e w4a ⟨u4, rfl, q1, q2⟩
  rw [byL_own] at q1
  obtain ⟨v4, w4b, hr4, ho4⟩ := (HO7.out.gr q2).app (ownsRow_rowV q1 (by unfold byR; rw [List.length_append]; have := digs_len5 (n := p.B.length) (by have := HLEN.out; omega); have := HLEN.out; omega) (fun c _ => Cod.litZ_b (byR_b HIS3.out.byt) c)) (fun c _ => bodyR_bytes p c) (by unfold byR; rw [List.length_append]; have := digs_len5 (n := p.B.length) (by have := HLEN.out; omega); have := HLEN.out; have := HPL.out (1 + 1 + 1 + 1); omega)
  have e4 : (prefR p 4).length + (byR p).length = (bodyR p).length := by rw [← List.length_append]; rfl
  rw [e4] at ho4
  have hown : w4b.ownsRow w3.heap.size /-t-/5 1 v4 (bodyR p).length (bytesL (bodyR p).length (Cod.litZ (bodyR p))) := ho4.own
  obtain ⟨A8, C8, hv8⟩ := own_slice hown
  rw [hv8] at hown hr4
  have HR4 := Lib.hid hr4
  have HBK := Lib.hid (fun (w' : World) (k : Ch (fun _ => False) w4b w') => rinB_is (vol := vol) (g := g) (mir := mir) HMM.out HQ.out HMR.out HVL.out ((ownsRow_rowV hown (by have := body_lenR HMM.out; omega) (fun c _ => Cod.litZ_b (bodyR_b HIS3.out.byt) c)).gr k))
  have HC8 := Lib.hid (HC3.out.trans ho4.ch)
  have HPX8 := Lib.hid (HPX3.out.gr ho4.ch)
  have HGX8 := Lib.hid (HGX3.out.gr ho4.ch)
  have HBV := Lib.hid (show rinB vol g mir p (.slice A8 (bodyR p).length C8) = ⟨3, vol, Y, p.ep, p.seq, .slice A8 (bodyR p).length C8, (bodyR p).length, Cod.litZ (bodyR p)⟩ by rw [HYY.out]; rfl)
  clear q1 q2 hr4 ho4 hown e4 y1 HO4 HO5 HO6 HO7 hv8
  obtain ⟨y0, y1, y2, y3, y4, y5, y6⟩ := HPX8.out
  obtain ⟨x0, x1, x2, x3⟩ := HGX8.out
  rw [← HWW.out] at x0
  have HK3 := Lib.hid (And.intro y0 (And.intro y1 x0))
  go_wp2_with (first | (at_builtin; refine wpList_app_of _ rfl (.tmp 62) (.tmp 63) rfl rfl _ _ (.slice A8 (bodyR p).length C8) w4b rfl rfl HR4.out ?_) | fail)
  obtain ⟨L, hL⟩ : ∃ L, L = (bodyR p).length := ⟨_, rfl⟩
  rw [← hL] at HBV HBK
  rw [← hL]
  clear hL y2 y3 y4 y5 y6 x1 x2 x3
  have we0 := HE0.out
  have we1 := HE1.out
  have we2 := HE2.out
  have we3 := HE3.out
  have we4 := HWZ.out
  go_region_held3 (fun w' => w'.cell? ⟨H, 0, none⟩ = some (.int .i64 p.seq) ∧ w'.cell? ⟨H, 1, none⟩ = some (.int .i64 p.ep) ∧ w'.cell? ⟨HG, 0, none⟩ = some (.int .i64 W)) (first | exact kc | go_keep)
    (first
      | (go_at_call 47; refine (rsealB_any ⟨3, vol, Y, p.ep, p.seq, .slice A8 L C8, L, Cod.litZ (bodyR p)⟩ A8 C8 _ rfl (by rw [← HBV.out]; exact HBK.out _ (Ch.refl _ w4b).drew)).mono ?_; rintro e w6 hq; rw [← HBV.out] at hq; have hfin := secRPost_seal HMM.out HQ.out HMR.out HC8.out.drew hq; obtain ⟨A6, C6, rfl, q3, q4⟩ := hq; have q5 := (Ch.refl (fun _ => False) w4b).drew.trans q4; have kc := And.intro (q5.cell HK3.out.1 (fun f => f)) (And.intro (q5.cell HK3.out.2.1 (fun f => f)) (q5.cell HK3.out.2.2 (fun f => f)))))
  have HFIN := Lib.hid hfin
  clear hfin
  go_wp2
  go_ret2
  exact HFIN.out
#print axioms r11sec_any
end Go.Proofs.YteleknojohnlbaaGreat
namespace Go.Proofs.YteleknojohnlbaaGreat
open Go.RowKit
set_option linter.unusedVariables false
set_option maxRecDepth 100000

theorem opensB_over {z : Nat → Nat} (hz : Bytes 256 z) (h : ¬ blkLong z ≤ 228) : opensB 256 z = false := by
  rw [opensB_at]
  have : eqB 256 256 (sectZ (readB undef z)) z = false := decide_eq_false fun q => by
    have e0 := q.2 20 (by omega)
    have e1 := q.2 21 (by omega)
    have l : (readB undef z).len = 228 := by rw [readB_len]; unfold rdLen; rw [if_neg h]
    rw [sectZ_front (by omega)] at e0 e1
    have s0 := secZ_len (b := readB undef z) 0 (by omega)
    have s1 := secZ_len (b := readB undef z) 1 (by omega)
    rw [l] at s0 s1
    rw [show 20 + 0 = 20 from rfl, e0] at s0
    rw [show 20 + 1 = 21 from rfl, e1] at s1
    have b0 : Crc.byteOf 228 0 = 228 := by decide
    have b1 : Crc.byteOf 228 1 = 0 := by decide
    rw [b0] at s0
    rw [b1] at s1
    apply h
    unfold blkLong
    omega
  rw [this, Bool.and_false]
set_option maxHeartbeats 1600000 in
set_option maxRecDepth 100000 in
theorem ropen_long (A : Option Addr) (n C : Nat) (z : Nat → Nat) (w : World) (hn : n ≤ 140737488351232) (h : n ≠ 256) : Calls Tryz.prog 50 #[.slice A n C] w (OpenPost n z w) := by
  obtain ⟨w1, H, hZ⟩ := zeR w
  obtain ⟨w2, h2⟩ := stR (b := bk0) hZ.cx bk0_V
  have HP := Lib.hid (openPost_no (w := w) (w' := w2) (opensB_long z h) (openE_long z h) (hZ.ch.over h2.ch (by rw [hZ.sz]; exact Nat.le_refl _)))
  have HZ := Lib.hid hZ
  have H2 := Lib.hid h2
  have t1 : ((n : Int) != 256) = true := by simp; omega
  clear hZ h2 h
  go_enter Tryz.func50, Tryz.ntmps50
  go_wp2_with (first
    | ((with_reducible refine wpList_isOp (.alloc 80) rfl ?_); refine wpList_making _ w1 rfl 80 rfl (bkC bk0) H (zero_bk _) (by exact HZ.out.sz) (by exact HZ.out.al) ?_)
    | ((with_reducible refine wpList_isOp (.store 80 (.tmp 2) (.tmp 12)) rfl ?_); refine wpList_storing _ w2 rfl 80 (.tmp 2) (.tmp 12) rfl (.agg (bkC bk0)) ⟨H, 0, none⟩ rfl rfl (by exact H2.out.st) ?_))
  exact bodyPost_ret (v := .tuple #[.agg (bkC bk0), .int .i64 1]) (results_bk Tryz.results50 _ _ H bk0 rfl H2.out.cx) rfl HP.out
#print axioms ropen_long
theorem eqB_symm (n : Nat) (z y : Nat → Nat) : eqB n n z y = eqB n n y z := by
  unfold eqB
  rw [decide_eq_decide]
  exact ⟨fun h => ⟨rfl, fun c hc => (h.2 c hc).symm⟩, fun h => ⟨rfl, fun c hc => (h.2 c hc).symm⟩⟩
theorem opensB_seal {z : Nat → Nat} {r : Bk} (h1 : mayB (readB undef z) = mayB r) (h2 : sectZ (readB undef z) = sectZ r) : opensB 256 z = (decide (sealE r = 0) && eqB 256 (sealN r) z (sectZ r)) := by
  rw [opensB_at, h1, h2, sealE_may]
  by_cases h : sealE r = 0
  · rw [decide_eq_true h, Bool.true_and, Bool.true_and]
    have hm : mayB r = true := by rw [sealE_may]; exact decide_eq_true h
    have hN : sealN r = 256 := by unfold sealN; rw [hm]; rfl
    rw [hN, eqB_symm]
  · rw [decide_eq_false h, Bool.false_and, Bool.false_and]
theorem built_bk (k v a e s : Int) (w : World) : (Instr.build 80 #[(0, .int .i64 k), (1, .int .i64 v), (2, .int .i64 a), (3, .int .i64 e), (4, .int .i64 s)]).run Tryz.prog w = .ok (.agg (bkC ⟨k, v, a, e, s, .slice none 0 0, 0, fun _ => 0⟩)) w := run_build w _ _ _ (by kernel_rfl)
set_option maxHeartbeats 3200000 in
set_option maxRecDepth 100000 in
theorem ropen_at (A : Option Addr) (C : Nat) (z : Nat → Nat) (w : World) (h : RowV w (.slice A 256 C) 256 z) : Calls Tryz.prog 50 #[.slice A 256 C] w (OpenPost 256 z w) := by
  obtain ⟨w1, H, hZ⟩ := zeR w
  have HZ := Lib.hid hZ
  have HV1 := Lib.hid (h.gr hZ.ch)
  have HBY := Lib.hid h.bytes
  have t1 : ((256 : Int) != 256) = false := by simp
  obtain ⟨b, o, rfl, _⟩ := h.at (by omega)
  have hCb : 256 ≤ C := by obtain ⟨_, _, e, h2, _⟩ := h; injection e with _ _ e; rw [e]; exact h2.2
  have k20 : ¬ C = 20 := by omega
  have k4 : ¬ C = 4 := by omega
  have k8 : ¬ C = 8 := by omega
  have k12 : ¬ C = 12 := by omega
  have k16 : ¬ C = 16 := by omega
  have k24 : ¬ C = 24 := by omega
  have HS2 := Lib.hid (show RowV w1 (.slice (some ⟨b, o + 20, none⟩) 2 (C - 20)) 2 (fun i => z (20 + i)) from row_front (row_tail HV1.out (show 20 ≤ 256 by omega)) (by omega))
  have HN2 := Lib.hid (show nv (fun i => z (20 + i)) 0 2 = blkLong z from nv_2 (fun i => z (20 + i)) 0)
  have hXb : blkLong z ≤ 65791 := by
    have h0 := HV1.out.bytes 20 (by omega)
    have h1 := HV1.out.bytes 21 (by omega)
    unfold blkLong
    omega
  clear hZ h
  go_enter Tryz.func50, Tryz.ntmps50
  go_wp2_with ((with_reducible refine wpList_isOp (.alloc 80) rfl ?_); refine wpList_making _ w1 rfl 80 rfl (bkC bk0) H (zero_bk _) (by exact HZ.out.sz) (by exact HZ.out.al) ?_)
  refine (brnum_any _ 2 _ _ _ HS2.out (by omega)).mono ?_
  rintro e w2 ⟨rfl, rfl⟩
  rw [HN2.out]
  by_cases hq : blkLong z ≤ 228
  case neg =>
    obtain ⟨w2, h2⟩ := stR (b := bk0) HZ.out.cx bk0_V
    have hno := opensB_over HBY.out hq
    have HP := Lib.hid (openPost_no (x := 7) (w := w) (w' := w2) hno (by rw [openE_at, hno]; rfl) (HZ.out.ch.over h2.ch (by rw [HZ.out.sz]; exact Nat.le_refl _)))
    have H2 := Lib.hid h2
    obtain ⟨X, hX⟩ : ∃ X, X = blkLong z := ⟨_, rfl⟩
    rw [← hX] at hXb hq ⊢
    have t2 : decide ((228 : Int) < (X : Int)) = true := by simp; omega
    clear hX hno h2 hq
    go_wp2_with ((with_reducible refine wpList_isOp (.store 80 (.tmp 2) (.tmp 18)) rfl ?_); refine wpList_storing _ w2 rfl 80 (.tmp 2) (.tmp 18) rfl (.agg (bkC bk0)) ⟨H, 0, none⟩ rfl rfl (by exact H2.out.st) ?_)
    exact bodyPost_ret (v := .tuple #[.agg (bkC bk0), .int .i64 7]) (results_bk Tryz.results50 _ _ H bk0 rfl H2.out.cx) rfl HP.out
  have HRL := Lib.hid (show blkLong z = rdLen z by unfold rdLen; rw [if_pos hq])
  have HR4 := Lib.hid (show ∀ (w' : World) (a : Nat), a + 4 ≤ 256 → RowV w' (.slice (some ⟨b, o, none⟩) 256 C) 256 z → Calls Tryz.prog 86 #[.slice (some ⟨b, o + a, none⟩) 4 (C - a)] w' fun e w'' => e = .returned (.int .i64 (numZ z a : Int)) ∧ w' = w'' from fun w' a ha hr => by
    have := brnum_any _ 4 _ _ w' (row_front (row_tail hr (show a ≤ 256 by omega)) (show 4 ≤ 256 - a by omega)) (Nat.le_refl _)
    have e4 := nv_4 (fun i => z (a + i)) 0
    have e5 : numZ (fun i => z (a + i)) 0 = numZ z a := rfl
    rw [e4, e5] at this
    exact this)
  obtain ⟨X, hX⟩ : ∃ X, X = blkLong z := ⟨_, rfl⟩
  rw [← hX] at hXb hq HRL ⊢
  have t2 : decide ((228 : Int) < (X : Int)) = false := by simp; omega
  have HX := Lib.hid hX
  clear hX
  obtain ⟨wd, hwd⟩ : ∃ wd, wd = w1.drew := ⟨_, rfl⟩
  have hcd : Ch (fun _ => False) w1 wd := by rw [hwd]; exact (Ch.refl _ w1).drew
  obtain ⟨we, H3, hZ3⟩ := zeR wd
  have HVD := Lib.hid (HV1.out.gr hcd)
  have HVE := Lib.hid (HV1.out.gr (hcd.trans hZ3.ch))
  have hz2 : z 2 < 256 := HBY.out 2 (by omega)
  have ez2 : IntKind.i64.wrap (z 2 : Int) = (z 2 : Int) := by rw [IntKind.wrap_i64]; omega
  have m8 : (8 : Int) ≤ (C : Int) := by omega
  have m12 : (12 : Int) ≤ (C : Int) := by omega
  have m16 : (16 : Int) ≤ (C : Int) := by omega
  have m20 : (20 : Int) ≤ (C : Int) := by omega
  obtain ⟨r0, hr0⟩ : ∃ r0 : Bk, r0 = ⟨z 2, numZ z 4, numZ z 8, numZ z 12, numZ z 16, .slice none 0 0, 0, fun _ => 0⟩ := ⟨_, rfl⟩
  obtain ⟨wf, hf⟩ := stR (b := r0) hZ3.cx (by rw [hr0]; exact ⟨_, _, _, rfl⟩)
  have hcf : Ch (fun _ => False) w1 wf := (hcd.trans hZ3.ch).over hf.ch (by
    rw [← hZ3.sz]
    exact hcd.size)
  have HVF := Lib.hid (HV1.out.gr hcf)
  have HCUT : Hid (wf.heap[H3]? = some (.cells (bkC r0) 80 (0, 0)) ∧ Ch (fun _ => False) w1 wf ∧ H < H3) := Lib.hid ⟨hf.cx, hcf, by
    have h6 := blk_lt (o := .cells (bkC bk0) 80 (0, 0)) HZ.out.cx
    have h7 := hcd.size
    rw [← hZ3.sz]
    omega⟩
  have HF := Lib.hid hf
  have HZ3 := Lib.hid hZ3
  have HWD := Lib.hid hwd
  have HRR := Lib.hid hr0
  have hbd := built_bk (z 2) (numZ z 4) (numZ z 8) (numZ z 12) (numZ z 16)
  rw [← hr0] at hbd
  clear hwd hcd hZ3 hf hcf hr0
  go_upto_region 6 with fail
  go_cut [5] (fun v wx => v = .pointer (some ⟨H3, 0, none⟩) ∧ Hid (wx.heap[H3]? = some (.cells (bkC r0) 80 (0, 0)) ∧ Ch (fun _ => False) w1 wx ∧ H < H3))
  case first =>
    refine wp_region_held (S := fun W' => RowV W' (.slice (some ⟨b, o, none⟩) 256 C) 256 z) (by kernel_rfl) ?_
    change wpAnyH _ _ _ _ _ _ _ _ (World.drew _)
    rw [← HWD.out]
    have HS : (fun W' : World => RowV W' (.slice (some ⟨b, o, none⟩) 256 C) 256 z) wd := HVD.out
    refine wpAnyH_take (i := 0) (oi := ⟨some 19, .move (.tmp 0), _, _, _, none⟩) (v := .slice (some ⟨b, o, none⟩) 256 C) rfl (by kernel_rfl) (by kernel_rfl) (by kernel_rfl) (fun _ _ _ h => h) (Or.inl ⟨by rfl, fun w' hS => ?_⟩) HS ?_
    · clear hS; go_simp
    simp only [Act.put, List.setIfInBounds_toArray, List.set_cons_zero, List.set_cons_succ]
    refine wpAnyH_take (i := 1) (oi := ⟨some 20, .indexAddr /-t-/24 (.tmp 19) (.const (.int .i64 2)), _, _, _, none⟩) (v := .pointer (some ⟨b, o + 2, none⟩)) rfl (by kernel_rfl) (by kernel_rfl) (by kernel_rfl) (fun _ _ _ h => h) (Or.inl ⟨by rfl, fun w' hS => ?_⟩) HS ?_
    · clear hS; go_simp
    simp only [Act.put, List.setIfInBounds_toArray, List.set_cons_zero, List.set_cons_succ]
    refine wpAnyH_take (i := 2) (oi := ⟨some 21, .load /-t-/5 (.tmp 20), _, _, _, none⟩) (v := .int .u8 (z 2 : Int)) rfl (by kernel_rfl) (by kernel_rfl) (by kernel_rfl) (fun _ _ _ h => h) (Or.inl ⟨by rfl, fun w' hS => ?_⟩) HS ?_
    · have cc : w'.cell? ⟨b, o + 2, none⟩ = some (.int .u8 (z 2 : Int)) := by
        obtain ⟨_, _, e, hc⟩ := RowV.at hS (by omega)
        injection e with e
        injection e with e1 e2
        subst e1 e2
        exact hc 2 (by omega)
      clear hS
      go_simp
    simp only [Act.put, List.setIfInBounds_toArray, List.set_cons_zero, List.set_cons_succ]
    refine wpAnyH_take (i := 3) (oi := ⟨some 22, .convert /-t-/5 /-t-/3 (.tmp 21), _, _, _, none⟩) (v := .int .i64 (z 2 : Int)) rfl (by kernel_rfl) (by kernel_rfl) (by kernel_rfl) (fun _ _ _ h => h) (Or.inl ⟨by rfl, fun w' hS => ?_⟩) HS ?_
    · clear hS; go_simp
    simp only [Act.put, List.setIfInBounds_toArray, List.set_cons_zero, List.set_cons_succ]
    refine wpAnyH_take (i := 4) (oi := ⟨some 23, .move (.tmp 0), _, _, _, none⟩) (v := .slice (some ⟨b, o, none⟩) 256 C) rfl (by kernel_rfl) (by kernel_rfl) (by kernel_rfl) (fun _ _ _ h => h) (Or.inl ⟨by rfl, fun w' hS => ?_⟩) HS ?_
    · clear hS; go_simp
    simp only [Act.put, List.setIfInBounds_toArray, List.set_cons_zero, List.set_cons_succ]
    refine wpAnyH_take (i := 5) (oi := ⟨some 24, .slice /-t-/24 (.tmp 23) (some (.const (.int .i64 4))) (some (.const (.int .i64 8))) none, _, _, _, none⟩) (v := .slice (some ⟨b, o + 4, none⟩) 4 (C - 4)) rfl (by kernel_rfl) (by kernel_rfl) (by kernel_rfl) (fun _ _ _ h => h) (Or.inl ⟨by rfl, fun w' hS => ?_⟩) HS ?_
    · clear hS; go_simp
    simp only [Act.put, List.setIfInBounds_toArray, List.set_cons_zero, List.set_cons_succ]
    refine wpAnyH_take (i := 7) (oi := ⟨some 26, .move (.tmp 0), _, _, _, none⟩) (v := .slice (some ⟨b, o, none⟩) 256 C) rfl (by kernel_rfl) (by kernel_rfl) (by kernel_rfl) (fun _ _ _ h => h) (Or.inl ⟨by rfl, fun w' hS => ?_⟩) HS ?_
    · clear hS; go_simp
    simp only [Act.put, List.setIfInBounds_toArray, List.set_cons_zero, List.set_cons_succ]
    refine wpAnyH_take (i := 8) (oi := ⟨some 27, .slice /-t-/24 (.tmp 26) (some (.const (.int .i64 8))) (some (.const (.int .i64 12))) none, _, _, _, none⟩) (v := .slice (some ⟨b, o + 8, none⟩) 4 (C - 8)) rfl (by kernel_rfl) (by kernel_rfl) (by kernel_rfl) (fun _ _ _ h => h) (Or.inl ⟨by rfl, fun w' hS => ?_⟩) HS ?_
    · clear hS; go_simp
    simp only [Act.put, List.setIfInBounds_toArray, List.set_cons_zero, List.set_cons_succ]
    refine wpAnyH_take (i := 10) (oi := ⟨some 29, .move (.tmp 0), _, _, _, none⟩) (v := .slice (some ⟨b, o, none⟩) 256 C) rfl (by kernel_rfl) (by kernel_rfl) (by kernel_rfl) (fun _ _ _ h => h) (Or.inl ⟨by rfl, fun w' hS => ?_⟩) HS ?_
    · clear hS; go_simp
    simp only [Act.put, List.setIfInBounds_toArray, List.set_cons_zero, List.set_cons_succ]
    refine wpAnyH_take (i := 11) (oi := ⟨some 30, .slice /-t-/24 (.tmp 29) (some (.const (.int .i64 12))) (some (.const (.int .i64 16))) none, _, _, _, none⟩) (v := .slice (some ⟨b, o + 12, none⟩) 4 (C - 12)) rfl (by kernel_rfl) (by kernel_rfl) (by kernel_rfl) (fun _ _ _ h => h) (Or.inl ⟨by rfl, fun w' hS => ?_⟩) HS ?_
    · clear hS; go_simp
    simp only [Act.put, List.setIfInBounds_toArray, List.set_cons_zero, List.set_cons_succ]
    refine wpAnyH_take (i := 13) (oi := ⟨some 32, .move (.tmp 0), _, _, _, none⟩) (v := .slice (some ⟨b, o, none⟩) 256 C) rfl (by kernel_rfl) (by kernel_rfl) (by kernel_rfl) (fun _ _ _ h => h) (Or.inl ⟨by rfl, fun w' hS => ?_⟩) HS ?_
    · clear hS; go_simp
    simp only [Act.put, List.setIfInBounds_toArray, List.set_cons_zero, List.set_cons_succ]
    refine wpAnyH_take (i := 14) (oi := ⟨some 33, .slice /-t-/24 (.tmp 32) (some (.const (.int .i64 16))) (some (.const (.int .i64 20))) none, _, _, _, none⟩) (v := .slice (some ⟨b, o + 16, none⟩) 4 (C - 16)) rfl (by kernel_rfl) (by kernel_rfl) (by kernel_rfl) (fun _ _ _ h => h) (Or.inl ⟨by rfl, fun w' hS => ?_⟩) HS ?_
    · clear hS; go_simp
    simp only [Act.put, List.setIfInBounds_toArray, List.set_cons_zero, List.set_cons_succ]
    refine wpAnyH_ready (rs := [6, 17]) (by kernel_rfl) (by simp) ?_
    refine AllReadyH.cons rfl (fun K hK => ?_) (AllReadyH.cons rfl (fun K hK => ?_) AllReadyH.nil)
    · go_simp
      refine (HR4.out wd 4 (by omega) HVD.out).mono ?_
      rintro e w' ⟨rfl, rfl⟩
      dsimp only
      refine hK.out _ _ HVD.out (fun _ => ?_)
      clear hK K
      refine wpAnyH_ready (rs := [9, 17]) (by kernel_rfl) (by simp) ?_
      refine AllReadyH.cons rfl (fun K hK => ?_) (AllReadyH.cons rfl (fun K hK => ?_) AllReadyH.nil)
      · go_simp
        refine (HR4.out wd 8 (by omega) HVD.out).mono ?_
        rintro e w' ⟨rfl, rfl⟩
        dsimp only
        refine hK.out _ _ HVD.out (fun _ => ?_)
        clear hK K
        refine wpAnyH_ready (rs := [12, 17]) (by kernel_rfl) (by simp) ?_
        refine AllReadyH.cons rfl (fun K hK => ?_) (AllReadyH.cons rfl (fun K hK => ?_) AllReadyH.nil)
        · go_simp
          refine (HR4.out wd 12 (by omega) HVD.out).mono ?_
          rintro e w' ⟨rfl, rfl⟩
          dsimp only
          refine hK.out _ _ HVD.out (fun _ => ?_)
          clear hK K
          refine wpAnyH_ready (rs := [15, 17]) (by kernel_rfl) (by simp) ?_
          refine AllReadyH.cons rfl (fun K hK => ?_) (AllReadyH.cons rfl (fun K hK => ?_) AllReadyH.nil)
          · go_simp
            refine (HR4.out wd 16 (by omega) HVD.out).mono ?_
            rintro e w' ⟨rfl, rfl⟩
            dsimp only
            refine hK.out _ _ HVD.out (fun _ => ?_)
            clear hK K
            refine wpAnyH_take (i := 16) (oi := ⟨some 35, .build 80 #[(0, .tmp 22), (1, .tmp 25), (2, .tmp 28), (3, .tmp 31), (4, .tmp 34)], _, _, _, none⟩) (v := .agg (bkC r0)) rfl (by kernel_rfl) (by kernel_rfl) (by kernel_rfl) (fun _ _ _ h => h) (Or.inl ⟨by rfl, fun w' hS => ?_⟩) HVD.out ?_
            · clear hS
              go_simp
              rw [HRR.out]
              rfl
            simp only [Act.put, List.setIfInBounds_toArray, List.set_cons_zero, List.set_cons_succ]
            refine wpAnyH_ready (rs := [17]) (by kernel_rfl) (by simp) ?_
            refine AllReadyH.cons rfl (fun K hK => ?_) AllReadyH.nil
            refine step_making (o := ⟨some 5, .alloc 80, _, _, _, none⟩) we rfl 80 rfl (bkC bk0) H3 (zero_bk _) (by exact HZ3.out.sz) (by exact HZ3.out.al) ?_
            refine hK.out _ _ HVE.out (fun _ => ?_)
            clear hK K
            simp only [Act.put, List.setIfInBounds_toArray, List.set_cons_zero, List.set_cons_succ]
            refine wpAnyH_ready (rs := [18]) (by kernel_rfl) (by simp) ?_
            refine AllReadyH.cons rfl (fun K hK => ?_) AllReadyH.nil
            refine step_storing (o := ⟨none, .store 80 (.tmp 5) (.tmp 35), _, _, _, none⟩) wf rfl 80 (.tmp 5) (.tmp 35) rfl (.agg (bkC r0)) ⟨H3, 0, none⟩ (by first | (simp [Act.eval]; done) | simp [Act.eval, Act.put]) (by first | (simp [Act.eval]; done) | simp [Act.eval, Act.put]) (by exact HF.out.st) ?_
            refine hK.out _ _ HVF.out (fun _ => ?_)
            clear hK K
            simp only [Act.put]
            refine wpAnyH_done (by kernel_rfl) ?_ _
            go_wp2_with fail
            go_meet
            exact ⟨rfl, HCUT⟩
          · refine step_making (o := ⟨some 5, .alloc 80, _, _, _, none⟩) we rfl 80 rfl (bkC bk0) H3 (zero_bk _) (by exact HZ3.out.sz) (by exact HZ3.out.al) ?_
            refine hK.out _ _ HVE.out (fun _ => ?_)
            clear hK K
            simp only [Act.put, List.setIfInBounds_toArray, List.set_cons_zero, List.set_cons_succ]
            refine wpAnyH_ready (rs := [15]) (by kernel_rfl) (by simp) ?_
            refine AllReadyH.cons rfl (fun K hK => ?_) AllReadyH.nil
            go_simp
            refine (HR4.out we 16 (by omega) HVE.out).mono ?_
            rintro e w' ⟨rfl, rfl⟩
            dsimp only
            refine hK.out _ _ HVE.out (fun _ => ?_)
            clear hK K
            refine wpAnyH_take (i := 16) (oi := ⟨some 35, .build 80 #[(0, .tmp 22), (1, .tmp 25), (2, .tmp 28), (3, .tmp 31), (4, .tmp 34)], _, _, _, none⟩) (v := .agg (bkC r0)) rfl (by kernel_rfl) (by kernel_rfl) (by kernel_rfl) (fun _ _ _ h => h) (Or.inl ⟨by rfl, fun w' hS => ?_⟩) HVE.out ?_
            · clear hS
              go_simp
              rw [HRR.out]
              rfl
            simp only [Act.put, List.setIfInBounds_toArray, List.set_cons_zero, List.set_cons_succ]
            refine wpAnyH_ready (rs := [18]) (by kernel_rfl) (by simp) ?_
            refine AllReadyH.cons rfl (fun K hK => ?_) AllReadyH.nil
            refine step_storing (o := ⟨none, .store 80 (.tmp 5) (.tmp 35), _, _, _, none⟩) wf rfl 80 (.tmp 5) (.tmp 35) rfl (.agg (bkC r0)) ⟨H3, 0, none⟩ (by first | (simp [Act.eval]; done) | simp [Act.eval, Act.put]) (by first | (simp [Act.eval]; done) | simp [Act.eval, Act.put]) (by exact HF.out.st) ?_
            refine hK.out _ _ HVF.out (fun _ => ?_)
            clear hK K
            simp only [Act.put]
            refine wpAnyH_done (by kernel_rfl) ?_ _
            go_wp2_with fail
            go_meet
            exact ⟨rfl, HCUT⟩
        · refine step_making (o := ⟨some 5, .alloc 80, _, _, _, none⟩) we rfl 80 rfl (bkC bk0) H3 (zero_bk _) (by exact HZ3.out.sz) (by exact HZ3.out.al) ?_
          refine hK.out _ _ HVE.out (fun _ => ?_)
          clear hK K
          simp only [Act.put, List.setIfInBounds_toArray, List.set_cons_zero, List.set_cons_succ]
          refine wpAnyH_ready (rs := [12]) (by kernel_rfl) (by simp) ?_
          refine AllReadyH.cons rfl (fun K hK => ?_) AllReadyH.nil
          go_simp
          refine (HR4.out we 12 (by omega) HVE.out).mono ?_
          rintro e w' ⟨rfl, rfl⟩
          dsimp only
          refine hK.out _ _ HVE.out (fun _ => ?_)
          clear hK K
          refine wpAnyH_ready (rs := [15]) (by kernel_rfl) (by simp) ?_
          refine AllReadyH.cons rfl (fun K hK => ?_) AllReadyH.nil
          go_simp
          refine (HR4.out we 16 (by omega) HVE.out).mono ?_
          rintro e w' ⟨rfl, rfl⟩
          dsimp only
          refine hK.out _ _ HVE.out (fun _ => ?_)
          clear hK K
          refine wpAnyH_take (i := 16) (oi := ⟨some 35, .build 80 #[(0, .tmp 22), (1, .tmp 25), (2, .tmp 28), (3, .tmp 31), (4, .tmp 34)], _, _, _, none⟩) (v := .agg (bkC r0)) rfl (by kernel_rfl) (by kernel_rfl) (by kernel_rfl) (fun _ _ _ h => h) (Or.inl ⟨by rfl, fun w' hS => ?_⟩) HVE.out ?_
          · clear hS
            go_simp
            rw [HRR.out]
            rfl
          simp only [Act.put, List.setIfInBounds_toArray, List.set_cons_zero, List.set_cons_succ]
          refine wpAnyH_ready (rs := [18]) (by kernel_rfl) (by simp) ?_
          refine AllReadyH.cons rfl (fun K hK => ?_) AllReadyH.nil
          refine step_storing (o := ⟨none, .store 80 (.tmp 5) (.tmp 35), _, _, _, none⟩) wf rfl 80 (.tmp 5) (.tmp 35) rfl (.agg (bkC r0)) ⟨H3, 0, none⟩ (by first | (simp [Act.eval]; done) | simp [Act.eval, Act.put]) (by first | (simp [Act.eval]; done) | simp [Act.eval, Act.put]) (by exact HF.out.st) ?_
          refine hK.out _ _ HVF.out (fun _ => ?_)
          clear hK K
          simp only [Act.put]
          refine wpAnyH_done (by kernel_rfl) ?_ _
          go_wp2_with fail
          go_meet
          exact ⟨rfl, HCUT⟩
      · refine step_making (o := ⟨some 5, .alloc 80, _, _, _, none⟩) we rfl 80 rfl (bkC bk0) H3 (zero_bk _) (by exact HZ3.out.sz) (by exact HZ3.out.al) ?_
        refine hK.out _ _ HVE.out (fun _ => ?_)
        clear hK K
        simp only [Act.put, List.setIfInBounds_toArray, List.set_cons_zero, List.set_cons_succ]
        refine wpAnyH_ready (rs := [9]) (by kernel_rfl) (by simp) ?_
        refine AllReadyH.cons rfl (fun K hK => ?_) AllReadyH.nil
        go_simp
        refine (HR4.out we 8 (by omega) HVE.out).mono ?_
        rintro e w' ⟨rfl, rfl⟩
        dsimp only
        refine hK.out _ _ HVE.out (fun _ => ?_)
        clear hK K
        refine wpAnyH_ready (rs := [12]) (by kernel_rfl) (by simp) ?_
        refine AllReadyH.cons rfl (fun K hK => ?_) AllReadyH.nil
        go_simp
        refine (HR4.out we 12 (by omega) HVE.out).mono ?_
        rintro e w' ⟨rfl, rfl⟩
        dsimp only
        refine hK.out _ _ HVE.out (fun _ => ?_)
        clear hK K
        refine wpAnyH_ready (rs := [15]) (by kernel_rfl) (by simp) ?_
        refine AllReadyH.cons rfl (fun K hK => ?_) AllReadyH.nil
        go_simp
        refine (HR4.out we 16 (by omega) HVE.out).mono ?_
        rintro e w' ⟨rfl, rfl⟩
        dsimp only
        refine hK.out _ _ HVE.out (fun _ => ?_)
        clear hK K
        refine wpAnyH_take (i := 16) (oi := ⟨some 35, .build 80 #[(0, .tmp 22), (1, .tmp 25), (2, .tmp 28), (3, .tmp 31), (4, .tmp 34)], _, _, _, none⟩) (v := .agg (bkC r0)) rfl (by kernel_rfl) (by kernel_rfl) (by kernel_rfl) (fun _ _ _ h => h) (Or.inl ⟨by rfl, fun w' hS => ?_⟩) HVE.out ?_
        · clear hS
          go_simp
          rw [HRR.out]
          rfl
        simp only [Act.put, List.setIfInBounds_toArray, List.set_cons_zero, List.set_cons_succ]
        refine wpAnyH_ready (rs := [18]) (by kernel_rfl) (by simp) ?_
        refine AllReadyH.cons rfl (fun K hK => ?_) AllReadyH.nil
        refine step_storing (o := ⟨none, .store 80 (.tmp 5) (.tmp 35), _, _, _, none⟩) wf rfl 80 (.tmp 5) (.tmp 35) rfl (.agg (bkC r0)) ⟨H3, 0, none⟩ (by first | (simp [Act.eval]; done) | simp [Act.eval, Act.put]) (by first | (simp [Act.eval]; done) | simp [Act.eval, Act.put]) (by exact HF.out.st) ?_
        refine hK.out _ _ HVF.out (fun _ => ?_)
        clear hK K
        simp only [Act.put]
        refine wpAnyH_done (by kernel_rfl) ?_ _
        go_wp2_with fail
        go_meet
        exact ⟨rfl, HCUT⟩
    · refine step_making (o := ⟨some 5, .alloc 80, _, _, _, none⟩) we rfl 80 rfl (bkC bk0) H3 (zero_bk _) (by exact HZ3.out.sz) (by exact HZ3.out.al) ?_
      refine hK.out _ _ HVE.out (fun _ => ?_)
      clear hK K
      simp only [Act.put, List.setIfInBounds_toArray, List.set_cons_zero, List.set_cons_succ]
      refine wpAnyH_ready (rs := [6]) (by kernel_rfl) (by simp) ?_
      refine AllReadyH.cons rfl (fun K hK => ?_) AllReadyH.nil
      go_simp
      refine (HR4.out we 4 (by omega) HVE.out).mono ?_
      rintro e w' ⟨rfl, rfl⟩
      dsimp only
      refine hK.out _ _ HVE.out (fun _ => ?_)
      clear hK K
      refine wpAnyH_ready (rs := [9]) (by kernel_rfl) (by simp) ?_
      refine AllReadyH.cons rfl (fun K hK => ?_) AllReadyH.nil
      go_simp
      refine (HR4.out we 8 (by omega) HVE.out).mono ?_
      rintro e w' ⟨rfl, rfl⟩
      dsimp only
      refine hK.out _ _ HVE.out (fun _ => ?_)
      clear hK K
      refine wpAnyH_ready (rs := [12]) (by kernel_rfl) (by simp) ?_
      refine AllReadyH.cons rfl (fun K hK => ?_) AllReadyH.nil
      go_simp
      refine (HR4.out we 12 (by omega) HVE.out).mono ?_
      rintro e w' ⟨rfl, rfl⟩
      dsimp only
      refine hK.out _ _ HVE.out (fun _ => ?_)
      clear hK K
      refine wpAnyH_ready (rs := [15]) (by kernel_rfl) (by simp) ?_
      refine AllReadyH.cons rfl (fun K hK => ?_) AllReadyH.nil
      go_simp
      refine (HR4.out we 16 (by omega) HVE.out).mono ?_
      rintro e w' ⟨rfl, rfl⟩
      dsimp only
      refine hK.out _ _ HVE.out (fun _ => ?_)
      clear hK K
      refine wpAnyH_take (i := 16) (oi := ⟨some 35, .build 80 #[(0, .tmp 22), (1, .tmp 25), (2, .tmp 28), (3, .tmp 31), (4, .tmp 34)], _, _, _, none⟩) (v := .agg (bkC r0)) rfl (by kernel_rfl) (by kernel_rfl) (by kernel_rfl) (fun _ _ _ h => h) (Or.inl ⟨by rfl, fun w' hS => ?_⟩) HVE.out ?_
      · clear hS
        go_simp
        rw [HRR.out]
        rfl
      simp only [Act.put, List.setIfInBounds_toArray, List.set_cons_zero, List.set_cons_succ]
      refine wpAnyH_ready (rs := [18]) (by kernel_rfl) (by simp) ?_
      refine AllReadyH.cons rfl (fun K hK => ?_) AllReadyH.nil
      refine step_storing (o := ⟨none, .store 80 (.tmp 5) (.tmp 35), _, _, _, none⟩) wf rfl 80 (.tmp 5) (.tmp 35) rfl (.agg (bkC r0)) ⟨H3, 0, none⟩ (by first | (simp [Act.eval]; done) | simp [Act.eval, Act.put]) (by first | (simp [Act.eval]; done) | simp [Act.eval, Act.put]) (by exact HF.out.st) ?_
      refine hK.out _ _ HVF.out (fun _ => ?_)
      clear hK K
      simp only [Act.put]
      refine wpAnyH_done (by kernel_rfl) ?_ _
      go_wp2_with fail
      go_meet
      exact ⟨rfl, HCUT⟩
  case rest =>
    obtain ⟨rfl, HSV⟩ := hcut
    obtain ⟨J, hJ⟩ : ∃ J, J = 24 + X := ⟨_, rfl⟩
    have e1 : IntKind.i64.wrap (24 + (X : Int)) = (J : Int) := by rw [IntKind.wrap_i64]; omega
    have j1 : (24 : Int) ≤ (J : Int) := by omega
    have j2 : (J : Int) ≤ (C : Int) := by omega
    have jX : J - 24 = X := by omega
    clear hJ
    have hVc := HV1.out.gr HSV.out.2.1
    have hBR : RowV wc (.slice (some ⟨b, o + 24, none⟩) X (C - 24)) X (bodyZ z) := row_front (row_tail hVc (show 24 ≤ 256 by omega)) (by omega)
    obtain ⟨v1, w3, hr3, ho3, hc3⟩ := app_copy hBR (by omega)
    obtain ⟨A3, C3, rfl⟩ := own_slice ho3
    have hx3 : w3.heap[H3]? = some (.cells (bkC r0) 80 (0, 0)) := (hc3.block H3 (blk_lt HSV.out.1) (fun f => f)).trans HSV.out.1
    obtain ⟨r, hr⟩ : ∃ r, r = readB (.slice A3 X C3) z := ⟨_, rfl⟩
    have hset : (bkC r0).setIfInBounds 5 (.slice A3 X C3) = bkC r := by rw [hr, HRR.out]; rfl
    have hrV : r.V = .slice A3 X C3 := by rw [hr]; rfl
    have hrL : r.len = X := by rw [hr, HRL.out]; rfl
    have f5 := blk_frozen (i := 5) hx3
    have c5 : w3.cell? ⟨H3, 5, none⟩ = some (.slice none 0 0) := by rw [blk_cell hx3, HRR.out]; rfl
    obtain ⟨w4, hw4⟩ : ∃ w4, w4 = w3.setCell ⟨H3, 5, none⟩ (.slice A3 X C3) := ⟨_, rfl⟩
    have hx4 : w4.heap[H3]? = some (.cells (bkC r) 80 (0, 0)) := by
      rw [hw4, ← hset]
      exact blk_set hx3 _
    have hH1 : H < w1.heap.size := blk_lt (o := .cells (bkC bk0) 80 (0, 0)) HZ.out.cx
    have hH3 : w1.heap.size ≤ H3 := by
      rw [← HZ3.out.sz, HWD.out]
      exact Nat.le_refl _
    have hc14 : Ch (fun _ => False) w1 w4 := by
      rw [hw4]
      exact (HSV.out.2.1.trans hc3).setCell (p := ⟨H3, 5, none⟩) (Or.inr hH3) _
    have ho4 : w4.ownsRow wc.heap.size /-t-/5 1 (.slice A3 X C3) X (bytesL X (bodyZ z)) := own_of ho3 (fun i hi => by
      rw [hw4]
      refine Below.heap_setCell w3 _ _ i (fun e => ?_)
      have e5 : i = H3 := e
      have h5 := (World.ownsRow.lt ho3 i hi).1
      have h6 := blk_lt HSV.out.1
      omega)
    have hr4 : BkIs w4 r := by
      have hrow := ownsRow_rowV ho4 (by omega) (fun c hc => HBY.out _ (by omega))
      rw [HRL.out] at hrow
      rw [hr, HRL.out]
      exact readB_is HBY.out hrow
    have HR3 := Lib.hid hr3
    have HC14 := Lib.hid hc14
    have HX4 := Lib.hid hx4
    have HL4 := Lib.hid (load_bk hx4)
    have HB4 := Lib.hid hr4
    have HV4 := Lib.hid (HV1.out.gr hc14)
    have HRV := Lib.hid (show r.V = .slice A3 r.len C3 by rw [hrL]; exact hrV)
    have HSE := Lib.hid (show mayB (readB undef z) = mayB r by rw [hr]; rfl)
    have HSZ := Lib.hid (show sectZ (readB undef z) = sectZ r by rw [hr]; rfl)
    have HRD := Lib.hid hr
    have HO4 := Lib.hid ho4
    have HW4 := Lib.hid hw4
    have HH := Lib.hid (And.intro hH1 hH3)
    have HWC := Lib.hid HSV.out.2.1.size
    clear hVc hBR hr3 ho3 hc3 hx3 hset hrV hrL hx4 hH1 hH3 hc14 ho4 hr4 hr HSV HCUT HF HVF HVD HVE HR4 hbd hw4
    go_wp2_with (first
      | (at_builtin; refine wpList_app_of _ rfl (.const (.slice none 0 0)) (.tmp 39) rfl rfl (.slice none 0 0) (.slice (some ⟨b, o + 24, none⟩) X (C - 24)) (.slice A3 X C3) w3 rfl (by simp [Act.eval]) HR3.out ?_)
      | ((with_reducible refine wpList_isOp (.load 80 (.tmp 5)) rfl ?_); rw [← HW4.out]; refine wpList_loading _ rfl 80 (.tmp 5) rfl (.agg (bkC r)) ⟨H3, 0, none⟩ rfl (by exact HL4.out) ?_))
    refine (rsealB_any r A3 C3 _ HRV.out HB4.out).mono ?_
    rintro e w5 ⟨A5, C5, rfl, ho5, hc5⟩
    have HC15 := Lib.hid (HC14.out.trans hc5)
    have HS5 := Lib.hid (ownsRow_rowV ho5 (by unfold sealN; split <;> omega) (sectZ_b HB4.out.row.bytes _))
    have HV5 := Lib.hid (HV4.out.gr hc5)
    have HX5 := Lib.hid ((hc5.block H3 (blk_lt HX4.out) (fun f => f)).trans HX4.out)
    have HO5 := Lib.hid (ownsRow_ch HO4.out hc5)
    have HB5 := Lib.hid (HB4.out.gr hc5)
    clear ho5 hc5
    go_wp2_with fail
    refine (same_any _ _ 256 _ _ _ _ _ _ HV5.out HS5.out).mono ?_
    rintro e w6 ⟨rfl, d, hw6⟩
    have hc6 : Ch (fun _ => False) w5 w6 := by rw [hw6]; exact (Ch.refl _ w5).drewN d
    have HL6 := Lib.hid (load_bk ((hc6.block H3 (blk_lt HX5.out) (fun f => f)).trans HX5.out))
    have HC16 := Lib.hid (HC15.out.trans hc6)
    have HO6 := Lib.hid (ownsRow_ch HO5.out hc6)
    have HB6 := Lib.hid (HB5.out.gr hc6)
    have hcx1 : w6.heap[H]? = some (.cells (bkC bk0) 80 (0, 0)) := (HC16.out.block H HH.out.1 (fun f => f)).trans HZ.out.cx
    obtain ⟨wn, hn⟩ := stR (b := bk0) hcx1 bk0_V
    obtain ⟨wy, hy⟩ := stR (b := r) hcx1 ⟨_, _, _, HRV.out⟩
    have hH : w.heap.size ≤ H := by rw [HZ.out.sz]; exact Nat.le_refl _
    have HN := Lib.hid hn
    have HY := Lib.hid hy
    have HPN := Lib.hid (show opensB 256 z = false → OpenPost 256 z w (.returned (.tuple #[.agg (bkC bk0), .int .i64 7])) wn from fun q =>
      openPost_no q (by rw [openE_at, q]; rfl) ((HZ.out.ch.trans HC16.out).over hn.ch hH))
    have HPY := Lib.hid (show opensB 256 z = true → OpenPost 256 z w (.returned (.tuple #[.agg (bkC r), .int .i64 0])) wy from fun q => by
      have hb : BkIs wy r := by
        have hb6 := HB6.out
        have hoy : wy.ownsRow wc.heap.size /-t-/5 1 (.slice A3 X C3) X (bytesL X (bodyZ z)) := own_of HO6.out (fun i hi => hy.ch.block i (World.ownsRow.lt HO6.out i hi).2 (fun e => by
          have h5 := (World.ownsRow.lt HO6.out i hi).1
          have h6 := HWC.out
          have h7 := HH.out.1
          omega))
        refine ⟨hb6.kind, hb6.vol, hb6.addr, hb6.epoch, hb6.seq, ?_⟩
        have hrow := ownsRow_rowV hoy (by omega) (fun c hc => HBY.out _ (by omega))
        rw [HRL.out] at hrow
        rw [HRD.out, HRL.out]
        exact hrow
      rw [HRD.out] at hb ⊢
      exact openPost_yes q (by rw [openE_at, q]; rfl) hb ((HZ.out.ch.trans HC16.out).over hy.ch hH))
    have HAT := Lib.hid (show opensB 256 z = (decide (sealE r = 0) && eqB 256 (sealN r) z (sectZ r)) from opensB_seal HSE.out HSZ.out)
    obtain ⟨q, hq⟩ : ∃ q, q = eqB 256 (sealN r) z (sectZ r) := ⟨_, rfl⟩
    obtain ⟨E, hE⟩ : ∃ E, E = sealE r := ⟨_, rfl⟩
    rw [← hq, ← hE] at HAT
    rw [← hq, ← hE]
    clear hn hy hcx1 hq hE hw6 hc6
    by_cases h0 : E = 0
    · subst h0
      have HQ := Lib.hid (show opensB 256 z = q by rw [HAT.out]; rfl)
      cases q
      · go_wp2_with ((with_reducible refine wpList_isOp (.store 80 (.tmp 2) (.tmp 56)) rfl ?_); refine wpList_storing _ wn rfl 80 (.tmp 2) (.tmp 56) rfl (.agg (bkC bk0)) ⟨H, 0, none⟩ rfl rfl (by exact HN.out.st) ?_)
        exact bodyPost_ret (v := .tuple #[.agg (bkC bk0), .int .i64 7]) (results_bk Tryz.results50 _ _ H bk0 rfl HN.out.cx) rfl (HPN.out HQ.out)
      · go_wp2_with (first
          | ((with_reducible refine wpList_isOp (.load 80 (.tmp 5)) rfl ?_); refine wpList_loading _ rfl 80 (.tmp 5) rfl (.agg (bkC r)) ⟨H3, 0, none⟩ rfl (by exact HL6.out) ?_)
          | ((with_reducible refine wpList_isOp (.store 80 (.tmp 2) (.tmp 57)) rfl ?_); refine wpList_storing _ wy rfl 80 (.tmp 2) (.tmp 57) rfl (.agg (bkC r)) ⟨H, 0, none⟩ rfl rfl (by exact HY.out.st) ?_))
        exact bodyPost_ret (v := .tuple #[.agg (bkC r), .int .i64 0]) (results_bk Tryz.results50 _ _ H r rfl HY.out.cx) rfl (HPY.out HQ.out)
    · have HQ := Lib.hid (show opensB 256 z = false by rw [HAT.out, decide_eq_false h0, Bool.false_and])
      have t3 : (E != 0) = true := by simpa using h0
      clear h0
      go_wp2_with ((with_reducible refine wpList_isOp (.store 80 (.tmp 2) (.tmp 56)) rfl ?_); refine wpList_storing _ wn rfl 80 (.tmp 2) (.tmp 56) rfl (.agg (bkC bk0)) ⟨H, 0, none⟩ rfl rfl (by exact HN.out.st) ?_)
      exact bodyPost_ret (v := .tuple #[.agg (bkC bk0), .int .i64 7]) (results_bk Tryz.results50 _ _ H bk0 rfl HN.out.cx) rfl (HPN.out HQ.out)
#print axioms ropen_at
theorem ropen_any (A : Option Addr) (n C : Nat) (z : Nat → Nat) (w : World) (h : RowV w (.slice A n C) n z) : Calls Tryz.prog 50 #[.slice A n C] w (OpenPost n z w) := by
  by_cases e : n = 256
  · subst e; exact ropen_at A C z w h
  · obtain ⟨_, _, _, h2, _⟩ := id h
    exact ropen_long A n C z w h2.1 e
#print axioms ropen_any
end Go.Proofs.YteleknojohnlbaaGreat
namespace Go.Proofs.YteleknojohnlbaaGreat
open Go.RowKit Go.Shelf Cod
set_option linter.unusedVariables false
set_option maxRecDepth 100000

set_option maxHeartbeats 400000 in
theorem ibytes_nil (w : World) : Calls Tryz.prog 85 #[.pointer none] w fun e w' => e = .returned (.tuple #[.slice none 0 0, .int .i64 6]) ∧ Ch (fun _ => False) w w' := by
  have hI : InIs (w.alloc (.cells #[.slice none 0 0] 172)) w.heap.size (.slice none 0 0) 0 (fun _ => 0) := ⟨Boxed.new w _ _, nil_row _ _, nn_none⟩
  have HN := Lib.hid (inum_any w.heap.size 0 (.slice none 0 0) (fun _ => 0) 0 6 _ hI (rd_short (by omega) (fun i hi => absurd hi (Nat.not_lt_zero i))))
  have HCA := Lib.hid (show Ch (fun _ => False) w (w.alloc (.cells #[.slice none 0 0] 172)) from (Ch.refl _ w).alloc _ _)
  have e1 : (resE T63 (fun _ => 0) 0 6 : Int) = 6 := rfl
  have e2 : (resV T63 (fun _ => 0) 0 6 : Int) = 0 := rfl
  rw [e1, e2] at HN
  clear hI e1 e2
  go_enter Tryz.func85, Tryz.ntmps85
  go_wp2_with fail
  refine (rest_nil _).mono ?_
  rintro e' w' ⟨rfl, rfl⟩
  go_wp2_with fail
  refine HN.out.mono ?_
  rintro e' w1 ⟨rfl, x1, _, _, hch1⟩
  have HC1 := Lib.hid (HCA.out.newer hch1 (Nat.le_refl _))
  clear hch1
  go_wp2
  go_ret2
  exact ⟨rfl, HC1.out⟩
#print axioms ibytes_nil

def GBPost (n : Nat) (x : Value) (z : Nat → Nat) (k e : Nat) (w : World) (en : Ending) (w' : World) : Prop :=
  ∃ v y, en = .returned (.tuple #[v, y, .int .i64 (bE n z k e : Int)]) ∧ RowN w w' v (bL n z k e) (fun i => z (resK T63 z k e + i)) ∧ RowV w' y (n - bK n z k e) (fun i => z (bK n z k e + i)) ∧ NN y ∧ (∀ S, Off S x → Off S y) ∧ Ch (fun _ => False) w w'
theorem gb_bad {n k e E : Nat} {x : Value} {z : Nat → Nat} {w w' : World} (hE : bE n z k e = E) (h0 : ¬ E = 0) (h : RowV w x n z) (hn : NN x) (hch : Ch (fun _ => False) w w') :
    GBPost n x z k e w (.returned (.tuple #[.slice none 0 0, x, .int .i64 (E : Int)])) w' := by
  obtain ⟨h1, h2⟩ := b_bad (hE ▸ h0)
  refine ⟨.slice none 0 0, x, by rw [hE], ⟨none, 0, by rw [h1], by rw [h1]; exact Nat.le_refl _, Or.inl h1⟩, ?_, hn, fun S h => h, hch⟩
  rw [h2]
  exact (h.gr hch).congr (fun i _ => by rw [Nat.zero_add])
theorem gb_good {n k e K V : Nat} {x y v : Value} {z : Nat → Nat} {w w1 w3 : World} (hE : bE n z k e = 0) (hL : bL n z k e = V) (hK : bK n z k e = K + V) (hKK : K = resK T63 z k e) (hch : Ch (fun _ => False) w w3)
    (hx : RowV w1 y (n - K - V) (fun i => z (K + (V + i)))) (hw : Ch (fun _ => False) w1 w3) (hnn : NN y) (hoff : ∀ S, Off S x → Off S y) (hv : RowN w w3 v V (fun i => z (K + i))) :
    GBPost n x z k e w (.returned (.tuple #[v, y, .int .i64 0])) w3 := by
  refine ⟨v, y, by rw [hE]; rfl, by rw [hL, ← hKK]; exact hv, ?_, hnn, hoff, hch⟩
  rw [hK, ← Nat.sub_sub]
  exact (hx.gr hw).congr (fun i _ => by rw [Nat.add_assoc])
set_option maxHeartbeats 1000000 in
set_option maxRecDepth 100000 in
theorem rgetbytes_any (A : Option Addr) (n C : Nat) (z : Nat → Nat) (k e : Nat) (w : World) (h : RowV w (.slice A n C) n z) (hnn : NN (.slice A n C)) (hr : Rd n z k e) (hn : n ≤ 1048576) :
    Calls Tryz.prog 52 #[.slice A n C] w (GBPost n (.slice A n C) z k e w) := by
  have HN := Lib.hid (rgetnum_any A n C z k e w h hnn hr)
  have hv : (resV T63 z k e : Int) ≤ 9223372036854775807 := by have := resV_le T63 z k e; unfold T63 at this; unfold T63; omega
  by_cases hE : resE T63 z k e = 0
  · have t1 : ((resE T63 z k e : Int) != 0) = false := by simpa using hE
    by_cases h4 : resV T63 z k e ≤ 4096
    · have t2 : decide ((4096 : Int) < (resV T63 z k e : Int)) = false := by simp; omega
      by_cases h5 : resV T63 z k e ≤ n - resK T63 z k e
      · have HE := Lib.hid (bE_fine hE h4 h5)
        have HK := Lib.hid (b_ok (bE_fine hE h4 h5))
        obtain ⟨V, hV⟩ : ∃ V, V = resV T63 z k e := ⟨_, rfl⟩
        obtain ⟨K, hK⟩ : ∃ K, K = resK T63 z k e := ⟨_, rfl⟩
        obtain ⟨M, hM⟩ : ∃ M, M = n - K := ⟨_, rfl⟩
        rw [← hV] at HN HK t2 h4 h5 hv
        rw [← hK] at HN HK h5
        rw [← hM] at HK h5
        rw [hE] at HN
        have t3 : decide (M < V) = false := by simp; omega
        have HKK := Lib.hid hK
        have HMM := Lib.hid hM
        have hV4 := h4
        have hVM := h5
        clear hV hK hM t1 h hnn
        clear hr hE h4 h5
        go_enter Tryz.func52, Tryz.ntmps52
        go_wp2_with fail
        refine HN.out.mono ?_
        rintro e' w' ⟨y1, d1, rfl, rfl, hy1, hn1, ho1⟩
        rw [← HMM.out] at hy1
        obtain ⟨A1, D, rfl, hl1, hr1⟩ := id hy1
        obtain ⟨W1, hW1⟩ : ∃ W1, W1 = w.drewN d1 := ⟨_, rfl⟩
        have HCW := Lib.hid (show Ch (fun _ => False) w W1 by rw [hW1]; exact (Ch.refl _ w).drewN d1)
        have hy2 : RowV W1 (.slice A1 M D) M (fun i => z (K + i)) := hy1.gr HCW.out
        rw [← hW1]
        have hl2 := hl1.1
        have hl3 := hl1.2
        clear hW1 hy1 hl1
        cases A1 with
        | none =>
          have hM : M = 0 := by
            rcases Nat.eq_zero_or_pos M with q | q
            · exact q
            · obtain ⟨_, _, q, _⟩ := hr1 q; cases q
          obtain rfl := hn1.1 _ _ rfl
          subst hM
          obtain rfl : V = 0 := by omega
          have HR := Lib.hid (append_nil_nil W1.drew /-t-/24 0)
          have HF := Lib.hid (fun d : Nat => gb_good (x := .slice A n C) (y := .slice none 0 0) (v := .slice none 0 0) (w1 := W1) (w3 := (W1.drew).drewN d) HE.out HK.out.1 HK.out.2.1 HKK.out ((HCW.out.drew).drewN d) (by rw [← HMM.out]; exact nil_row _ _) (((Ch.refl _ W1).drew).drewN d) nn_none ho1 ⟨none, 0, rfl, Nat.le_refl _, Or.inl rfl⟩)
          clear hr1 hn1 ho1 hy2
          go_wp2
          refine wp_region_held (S := fun _ => True) (by kernel_rfl) ?_
          change wpAnyH _ _ _ _ _ _ _ _ (World.drew _)
          refine wpAnyH_take (i := 0) (oi := { dst := some 26, op := .move (.tmp 6), type := _, pos := _, after := _, guard := none }) (v := .slice none 0 0) rfl (by kernel_rfl) (by kernel_rfl) (by kernel_rfl) (fun _ _ _ h => h) (Or.inl ⟨by rfl, fun w' hS => ?_⟩) trivial ?_
          · clear hS; go_simp
          refine wpAnyH_take (i := 1) (oi := { dst := some 27, op := .move (.tmp 5), type := _, pos := _, after := _, guard := none }) (v := .int .i64 (0 : Int)) rfl (by kernel_rfl) (by kernel_rfl) (by kernel_rfl) (fun _ _ _ h => h) (Or.inl ⟨by rfl, fun w' hS => ?_⟩) trivial ?_
          · clear hS; go_simp
          refine wpAnyH_take (i := 2) (oi := { dst := some 28, op := .slice /-t-/24 (.tmp 26) none (some (.tmp 27)) none, type := _, pos := _, after := _, guard := none }) (v := .slice none 0 0) rfl (by kernel_rfl) (by kernel_rfl) (by kernel_rfl) (fun _ _ _ h => h) (Or.inl ⟨by rfl, fun w' hS => ?_⟩) trivial ?_
          · clear hS; go_simp
          refine wpAnyH_take (i := 4) (oi := { dst := some 30, op := .move (.tmp 6), type := _, pos := _, after := _, guard := none }) (v := .slice none 0 0) rfl (by kernel_rfl) (by kernel_rfl) (by kernel_rfl) (fun _ _ _ h => h) (Or.inl ⟨by rfl, fun w' hS => ?_⟩) trivial ?_
          · clear hS; go_simp
          refine wpAnyH_take (i := 5) (oi := { dst := some 31, op := .move (.tmp 5), type := _, pos := _, after := _, guard := none }) (v := .int .i64 (0 : Int)) rfl (by kernel_rfl) (by kernel_rfl) (by kernel_rfl) (fun _ _ _ h => h) (Or.inl ⟨by rfl, fun w' hS => ?_⟩) trivial ?_
          · clear hS; go_simp
          refine wpAnyH_take (i := 6) (oi := { dst := some 32, op := .slice /-t-/24 (.tmp 30) (some (.tmp 31)) none none, type := _, pos := _, after := _, guard := none }) (v := .slice none 0 0) rfl (by kernel_rfl) (by kernel_rfl) (by kernel_rfl) (fun _ _ _ h => h) (Or.inl ⟨by rfl, fun w' hS => ?_⟩) trivial ?_
          · clear hS; go_simp
          simp only [Act.put, List.setIfInBounds_toArray, List.set_cons_zero, List.set_cons_succ]
          refine wpAnyH_ready (rs := [3]) (by kernel_rfl) (by simp) ?_
          refine AllReadyH.cons rfl (fun K' hK => ?_) AllReadyH.nil
          refine step_bytes_of rfl (.const (.slice none 0 0)) (.tmp 28) rfl rfl _ _ _ _ rfl rfl HR.out ?_
          refine hK.out _ _ trivial (fun _ => ?_)
          clear hK K'
          refine wpAnyH_ready (rs := [7]) (by kernel_rfl) (by simp) ?_
          refine AllReadyH.cons rfl (fun K' hK => ?_) AllReadyH.nil
          go_simp
          refine hK.out _ _ trivial (fun _ => ?_)
          clear hK K'
          refine wpAnyH_ready (rs := [8]) (by kernel_rfl) (by simp) ?_
          refine AllReadyH.cons rfl (fun K' hK => ?_) AllReadyH.nil
          go_simp
          refine hK.out _ _ trivial (fun _ => ?_)
          clear hK K'
          refine wpAnyH_ready (rs := [9]) (by kernel_rfl) (by simp) ?_
          refine AllReadyH.cons rfl (fun K' hK => ?_) AllReadyH.nil
          go_simp
          refine hK.out _ _ trivial (fun _ => ?_)
          clear hK K'
          refine wpAnyH_done (by kernel_rfl) ?_ _
          go_wp2
          refine bodyPost_ret (v := .tuple #[.slice none 0 0, .slice none 0 0, .int .i64 0]) (by simp [results, Tryz.results52, go_sem]) rfl ?_
          exact HF.out 0
        | some ad =>
          obtain ⟨b, o, rfl⟩ := hn1.2 _ _ _ rfl
          obtain ⟨v, w3, hr3, ho3, hch3⟩ := app_copy (row_front (hy2.gr (Ch.refl _ W1).drew) hVM) (by omega)
          have HR := Lib.hid hr3
          have HV := Lib.hid (RowN.own (w := w) ho3 (by omega) (fun c hc => hy2.bytes c (by omega)) HCW.out.drew.size)
          have HC3 := Lib.hid ((Ch.refl (fun _ => False) W1).drew.trans hch3)
          have e5 : ((M - V : Nat) : Int) = (M : Int) - (V : Int) := by omega
          have e6 : ((D - V : Nat) : Int) = (D : Int) - (V : Int) := by omega
          by_cases hD : D = V
          · subst hD
            obtain rfl : M = D := by omega
            have HF := Lib.hid (gb_good (x := .slice A n C) (y := .slice (some ⟨b, o, none⟩) 0 0) HE.out HK.out.1 HK.out.2.1 HKK.out (HCW.out.trans HC3.out) (show RowV W1 _ _ _ by rw [← HMM.out, Nat.sub_self]; exact none_row _ _ _) HC3.out (nn_some _ _ _ _) (fun S _ => Off.zero) HV.out)
            clear hr1 hn1 ho1 hy2 hr3 ho3 hch3
            go_wp2
            refine wp_region_held (S := fun _ => True) (by kernel_rfl) ?_
            change wpAnyH _ _ _ _ _ _ _ _ (World.drew _)
            refine wpAnyH_take (i := 0) (oi := { dst := some 26, op := .move (.tmp 6), type := _, pos := _, after := _, guard := none }) (v := .slice (some ⟨b, o, none⟩) M M) rfl (by kernel_rfl) (by kernel_rfl) (by kernel_rfl) (fun _ _ _ h => h) (Or.inl ⟨by rfl, fun w' hS => ?_⟩) trivial ?_
            · clear hS; go_simp
            refine wpAnyH_take (i := 1) (oi := { dst := some 27, op := .move (.tmp 5), type := _, pos := _, after := _, guard := none }) (v := .int .i64 (M : Int)) rfl (by kernel_rfl) (by kernel_rfl) (by kernel_rfl) (fun _ _ _ h => h) (Or.inl ⟨by rfl, fun w' hS => ?_⟩) trivial ?_
            · clear hS; go_simp
            refine wpAnyH_take (i := 2) (oi := { dst := some 28, op := .slice /-t-/24 (.tmp 26) none (some (.tmp 27)) none, type := _, pos := _, after := _, guard := none }) (v := .slice (some ⟨b, o, none⟩) M M) rfl (by kernel_rfl) (by kernel_rfl) (by kernel_rfl) (fun _ _ _ h => h) (Or.inl ⟨by rfl, fun w' hS => ?_⟩) trivial ?_
            · clear hS; go_simp
            refine wpAnyH_take (i := 4) (oi := { dst := some 30, op := .move (.tmp 6), type := _, pos := _, after := _, guard := none }) (v := .slice (some ⟨b, o, none⟩) M M) rfl (by kernel_rfl) (by kernel_rfl) (by kernel_rfl) (fun _ _ _ h => h) (Or.inl ⟨by rfl, fun w' hS => ?_⟩) trivial ?_
            · clear hS; go_simp
            refine wpAnyH_take (i := 5) (oi := { dst := some 31, op := .move (.tmp 5), type := _, pos := _, after := _, guard := none }) (v := .int .i64 (M : Int)) rfl (by kernel_rfl) (by kernel_rfl) (by kernel_rfl) (fun _ _ _ h => h) (Or.inl ⟨by rfl, fun w' hS => ?_⟩) trivial ?_
            · clear hS; go_simp
            refine wpAnyH_take (i := 6) (oi := { dst := some 32, op := .slice /-t-/24 (.tmp 30) (some (.tmp 31)) none none, type := _, pos := _, after := _, guard := none }) (v := .slice (some ⟨b, o, none⟩) 0 0) rfl (by kernel_rfl) (by kernel_rfl) (by kernel_rfl) (fun _ _ _ h => h) (Or.inl ⟨by rfl, fun w' hS => ?_⟩) trivial ?_
            · clear hS; go_simp
            simp only [Act.put, List.setIfInBounds_toArray, List.set_cons_zero, List.set_cons_succ]
            refine wpAnyH_ready (rs := [3]) (by kernel_rfl) (by simp) ?_
            refine AllReadyH.cons rfl (fun K' hK => ?_) AllReadyH.nil
            refine step_bytes_of rfl (.const (.slice none 0 0)) (.tmp 28) rfl rfl _ _ _ _ rfl rfl HR.out ?_
            refine hK.out _ _ trivial (fun _ => ?_)
            clear hK K'
            refine wpAnyH_ready (rs := [7]) (by kernel_rfl) (by simp) ?_
            refine AllReadyH.cons rfl (fun K' hK => ?_) AllReadyH.nil
            go_simp
            refine hK.out _ _ trivial (fun _ => ?_)
            clear hK K'
            refine wpAnyH_ready (rs := [8]) (by kernel_rfl) (by simp) ?_
            refine AllReadyH.cons rfl (fun K' hK => ?_) AllReadyH.nil
            go_simp
            refine hK.out _ _ trivial (fun _ => ?_)
            clear hK K'
            refine wpAnyH_ready (rs := [9]) (by kernel_rfl) (by simp) ?_
            refine AllReadyH.cons rfl (fun K' hK => ?_) AllReadyH.nil
            go_simp
            refine hK.out _ _ trivial (fun _ => ?_)
            clear hK K'
            refine wpAnyH_done (by kernel_rfl) ?_ _
            go_wp2
            refine bodyPost_ret (v := .tuple #[v, .slice (some ⟨b, o, none⟩) 0 0, .int .i64 0]) (by simp [results, Tryz.results52, go_sem]) rfl ?_
            exact HF.out
          · have t4 : (D : Int) - (V : Int) ≠ 0 := by omega
            have hVD : V ≤ D := by omega
            have HF := Lib.hid (gb_good (x := .slice A n C) (y := .slice (some ⟨b, o + V, none⟩) (M - V) (D - V)) HE.out HK.out.1 HK.out.2.1 HKK.out (HCW.out.trans HC3.out) (show RowV W1 _ _ _ by rw [← HMM.out]; exact row_tail hy2 hVM) HC3.out (nn_some _ _ _ _) (fun S hS => by
              rcases Nat.eq_zero_or_pos M with q | q
              · rw [q, Nat.zero_sub]; exact Off.zero
              · exact (ho1 S hS).part q) HV.out)
            clear hr1 hn1 ho1 hy2 hr3 ho3 hch3
            go_wp2
            refine wp_region_held (S := fun _ => True) (by kernel_rfl) ?_
            change wpAnyH _ _ _ _ _ _ _ _ (World.drew _)
            refine wpAnyH_take (i := 0) (oi := { dst := some 26, op := .move (.tmp 6), type := _, pos := _, after := _, guard := none }) (v := .slice (some ⟨b, o, none⟩) M D) rfl (by kernel_rfl) (by kernel_rfl) (by kernel_rfl) (fun _ _ _ h => h) (Or.inl ⟨by rfl, fun w' hS => ?_⟩) trivial ?_
            · clear hS; go_simp
            refine wpAnyH_take (i := 1) (oi := { dst := some 27, op := .move (.tmp 5), type := _, pos := _, after := _, guard := none }) (v := .int .i64 (V : Int)) rfl (by kernel_rfl) (by kernel_rfl) (by kernel_rfl) (fun _ _ _ h => h) (Or.inl ⟨by rfl, fun w' hS => ?_⟩) trivial ?_
            · clear hS; go_simp
            refine wpAnyH_take (i := 2) (oi := { dst := some 28, op := .slice /-t-/24 (.tmp 26) none (some (.tmp 27)) none, type := _, pos := _, after := _, guard := none }) (v := .slice (some ⟨b, o, none⟩) V D) rfl (by kernel_rfl) (by kernel_rfl) (by kernel_rfl) (fun _ _ _ h => h) (Or.inl ⟨by rfl, fun w' hS => ?_⟩) trivial ?_
            · clear hS; go_simp
            refine wpAnyH_take (i := 4) (oi := { dst := some 30, op := .move (.tmp 6), type := _, pos := _, after := _, guard := none }) (v := .slice (some ⟨b, o, none⟩) M D) rfl (by kernel_rfl) (by kernel_rfl) (by kernel_rfl) (fun _ _ _ h => h) (Or.inl ⟨by rfl, fun w' hS => ?_⟩) trivial ?_
            · clear hS; go_simp
            refine wpAnyH_take (i := 5) (oi := { dst := some 31, op := .move (.tmp 5), type := _, pos := _, after := _, guard := none }) (v := .int .i64 (V : Int)) rfl (by kernel_rfl) (by kernel_rfl) (by kernel_rfl) (fun _ _ _ h => h) (Or.inl ⟨by rfl, fun w' hS => ?_⟩) trivial ?_
            · clear hS; go_simp
            refine wpAnyH_take (i := 6) (oi := { dst := some 32, op := .slice /-t-/24 (.tmp 30) (some (.tmp 31)) none none, type := _, pos := _, after := _, guard := none }) (v := .slice (some ⟨b, o + V, none⟩) (M - V) (D - V)) rfl (by kernel_rfl) (by kernel_rfl) (by kernel_rfl) (fun _ _ _ h => h) (Or.inl ⟨by rfl, fun w' hS => ?_⟩) trivial ?_
            · clear hS; go_simp
            simp only [Act.put, List.setIfInBounds_toArray, List.set_cons_zero, List.set_cons_succ]
            refine wpAnyH_ready (rs := [3]) (by kernel_rfl) (by simp) ?_
            refine AllReadyH.cons rfl (fun K' hK => ?_) AllReadyH.nil
            refine step_bytes_of rfl (.const (.slice none 0 0)) (.tmp 28) rfl rfl _ _ _ _ rfl rfl HR.out ?_
            refine hK.out _ _ trivial (fun _ => ?_)
            clear hK K'
            refine wpAnyH_ready (rs := [7]) (by kernel_rfl) (by simp) ?_
            refine AllReadyH.cons rfl (fun K' hK => ?_) AllReadyH.nil
            go_simp
            refine hK.out _ _ trivial (fun _ => ?_)
            clear hK K'
            refine wpAnyH_ready (rs := [8]) (by kernel_rfl) (by simp) ?_
            refine AllReadyH.cons rfl (fun K' hK => ?_) AllReadyH.nil
            go_simp
            refine hK.out _ _ trivial (fun _ => ?_)
            clear hK K'
            refine wpAnyH_ready (rs := [9]) (by kernel_rfl) (by simp) ?_
            refine AllReadyH.cons rfl (fun K' hK => ?_) AllReadyH.nil
            go_simp
            refine hK.out _ _ trivial (fun _ => ?_)
            clear hK K'
            refine wpAnyH_done (by kernel_rfl) ?_ _
            go_wp2
            refine bodyPost_ret (v := .tuple #[v, .slice (some ⟨b, o + V, none⟩) (M - V) (D - V), .int .i64 0]) (by simp [results, Tryz.results52, go_sem]) rfl ?_
            exact HF.out
      · have t3 : decide (n - resK T63 z k e < resV T63 z k e) = true := by simp; omega
        have HF := Lib.hid (fun w' : World => gb_bad (w' := w') (bE_short hE h4 h5) (by decide) h hnn)
        clear h hnn hr h4 h5 hE
        go_enter Tryz.func52, Tryz.ntmps52
        go_wp2_with fail
        refine HN.out.mono ?_
        rintro e' w' ⟨y1, d1, rfl, rfl, hy1, hn1, ho1⟩
        obtain ⟨A1, D, rfl, hl1, _⟩ := id hy1
        have hl2 := hl1.1
        clear hy1 hl1 hn1 ho1
        go_wp2
        refine bodyPost_ret (v := .tuple #[.slice none 0 0, .slice A n C, .int .i64 6]) (by simp [results, Tryz.results52, go_sem]) rfl ?_
        exact HF.out _ ((Ch.refl _ w).drewN d1)
    · have t2 : decide ((4096 : Int) < (resV T63 z k e : Int)) = true := by simp; omega
      have HF := Lib.hid (fun w' : World => gb_bad (w' := w') (bE_long hE h4) (by decide) h hnn)
      clear h hnn hr h4 hE
      go_enter Tryz.func52, Tryz.ntmps52
      go_wp2_with fail
      refine HN.out.mono ?_
      rintro e' w' ⟨y1, d1, rfl, rfl, hy1, hn1, ho1⟩
      clear hy1 hn1 ho1
      go_wp2
      refine bodyPost_ret (v := .tuple #[.slice none 0 0, .slice A n C, .int .i64 2]) (by simp [results, Tryz.results52, go_sem]) rfl ?_
      exact HF.out _ ((Ch.refl _ w).drewN d1)
  · have t1 : ((resE T63 z k e : Int) != 0) = true := by simpa using hE
    have HF := Lib.hid (fun w' : World => gb_bad (w' := w') (bE_wrong hE) hE h hnn)
    clear h hnn hr hE
    go_enter Tryz.func52, Tryz.ntmps52
    go_wp2_with fail
    refine HN.out.mono ?_
    rintro e' w' ⟨y1, d1, rfl, rfl, hy1, hn1, ho1⟩
    clear hy1 hn1 ho1
    go_wp2
    refine bodyPost_ret (v := .tuple #[.slice none 0 0, .slice A n C, .int .i64 (resE T63 z k e : Int)]) (by simp [results, Tryz.results52, go_sem]) rfl ?_
    exact HF.out _ ((Ch.refl _ w).drewN d1)
#print axioms rgetbytes_any
end Go.Proofs.YteleknojohnlbaaGreat
namespace Go.Proofs.YteleknojohnlbaaGreat
open Go.RowKit
set_option linter.unusedVariables false
set_option maxRecDepth 100000

/-! ### a number that is got, of any row -/
def GetP (x : Value) (n : Nat) (z : Nat → Nat) (k e : Nat) (w : World) (en : Ending) (w' : World) : Prop :=
  ∃ A C d, en = .returned (.tuple #[.int .i64 (Cod.resV T63 z k e : Int), .slice A (n - Cod.resK T63 z k e) C, .int .i64 (Cod.resE T63 z k e : Int)]) ∧ w' = w.drewN d ∧ RowV w (.slice A (n - Cod.resK T63 z k e) C) (n - Cod.resK T63 z k e) (fun i => z (Cod.resK T63 z k e + i)) ∧ ∀ S, Off S x → Off S (.slice A (n - Cod.resK T63 z k e) C)
set_option maxHeartbeats 800000 in
theorem rget_any (A : Option Addr) (n C : Nat) (z : Nat → Nat) (k e : Nat) (w : World) (h : RowV w (.slice A n C) n z) (hr : Cod.Rd n z k e) : Calls Tryz.prog 51 #[.slice A n C] w (GetP (.slice A n C) n z k e w) := by
  by_cases hn : n = 0
  · subst hn
    obtain ⟨rfl, rfl⟩ := Cod.rd_one hr (Cod.rd_short (n := 0) (z := z) (by omega) (fun i hi => absurd hi (Nat.not_lt_zero i)))
    have HV := Lib.hid h
    have HD := Lib.hid hr
    clear h hr
    go_enter Tryz.func51, Tryz.ntmps51
    go_wp2_with fail
    refine (run_any A 0 C z _ _ _ HV.out HD.out).mono ?_
    rintro e' w' ⟨rfl, rfl⟩
    go_wp2
    refine bodyPost_ret (v := .tuple #[.int .i64 0, .slice A 0 C, .int .i64 6]) (by simp [results, Tryz.results51, go_sem]) rfl ?_
    have e : Cod.resK T63 z 0 6 = 0 := rfl
    refine ⟨A, C, 0, rfl, rfl, ?_, fun S _ => ?_⟩
    · rw [e]
      simpa using HV.out
    · rw [e]
      exact Off.zero
  · obtain ⟨b, o, rfl, _⟩ := h.at (by omega)
    refine (rgetnum_any _ n C z k e w h (nn_some b o n C) hr).mono ?_
    rintro en w' ⟨y, d, rfl, rfl, h2, _, h3⟩
    obtain ⟨A', C', rfl, _⟩ := id h2
    exact ⟨A', C', d, rfl, rfl, h2, h3⟩
#print axioms rget_any

theorem row_via {w4 w5 w6 : World} {x : Value} {n : Nat} {z : Nat → Nat} (h : RowV w5 x n z) (ho : Off (fun i => w4.heap.size ≤ i) x) (h5 : Ch (fun _ => False) w4 w5) (h6 : Ch (fun _ => False) w4 w6) : RowV w6 x n z := by
  obtain ⟨A, C, rfl, h2, h3⟩ := h
  refine ⟨A, C, rfl, h2, fun hn => ?_⟩
  obtain ⟨b, o, rfl, hc⟩ := h3 hn
  obtain ⟨m, rfl⟩ : ∃ m, n = m + 1 := ⟨n - 1, by omega⟩
  have hb : b < w4.heap.size := by
    have := ho b o m C rfl
    omega
  have e : w6.heap[b]? = w5.heap[b]? := (h6.block b hb (fun f => f)).trans (h5.block b hb (fun f => f)).symm
  refine ⟨b, o, rfl, fun c hcn => ⟨?_, (hc c hcn).2⟩⟩
  have := (hc c hcn).1
  unfold World.cell? at this ⊢
  rw [e]
  exact this

/-! ### bytes that are got, of any row -/
def GbP (n : Nat) (z : Nat → Nat) (k e : Nat) (w : World) (en : Ending) (w' : World) : Prop :=
  ∃ v y, en = .returned (.tuple #[v, y, .int .i64 (bE n z k e : Int)]) ∧ RowN w w' v (bL n z k e) (fun i => z (Cod.resK T63 z k e + i)) ∧ Ch (fun _ => False) w w'
set_option maxHeartbeats 800000 in
theorem rgb_any (A : Option Addr) (n C : Nat) (z : Nat → Nat) (k e : Nat) (w : World) (h : RowV w (.slice A n C) n z) (hr : Cod.Rd n z k e) (hn : n ≤ 1048576) : Calls Tryz.prog 52 #[.slice A n C] w (GbP n z k e w) := by
  by_cases h0 : n = 0
  · subst h0
    obtain ⟨rfl, rfl⟩ := Cod.rd_one hr (Cod.rd_short (n := 0) (z := z) (by omega) (fun i hi => absurd hi (Nat.not_lt_zero i)))
    have HG := Lib.hid (rget_any A 0 C z _ _ w h hr)
    have e1 : bE 0 z 0 6 = 6 := rfl
    have e2 : bL 0 z 0 6 = 0 := rfl
    have e3 : Cod.resE T63 z 0 6 = 6 := rfl
    have HE := Lib.hid (And.intro e1 e2)
    unfold GetP at HG
    rw [e3] at HG
    clear h hr e1 e2 e3
    go_enter Tryz.func52, Tryz.ntmps52
    go_wp2_with fail
    refine HG.out.mono ?_
    rintro e' w' ⟨A', C', d, rfl, rfl, _, _⟩
    go_wp2
    refine bodyPost_ret (v := .tuple #[.slice none 0 0, .slice A 0 C, .int .i64 6]) (by simp [results, Tryz.results52, go_sem]) rfl ?_
    exact ⟨.slice none 0 0, _, by rw [HE.out.1]; rfl, ⟨none, 0, by rw [HE.out.2], by rw [HE.out.2]; exact Nat.le_refl _, Or.inl HE.out.2⟩, (Ch.refl _ w).drewN d⟩
  · obtain ⟨b, o, rfl, _⟩ := h.at (by omega)
    refine (rgetbytes_any _ n C z k e w h (nn_some b o n C) hr hn).mono ?_
    rintro en w' ⟨v, y, rfl, h1, _, _, _, h2⟩
    exact ⟨v, y, rfl, h1, h2⟩
#print axioms rgb_any
end Go.Proofs.YteleknojohnlbaaGreat
namespace Go.Proofs.YteleknojohnlbaaGreat
open Go.RowKit
set_option linter.unusedVariables false
set_option maxRecDepth 100000
set_option linter.unusedSimpArgs false

/-! ### how the numbers are gathered -/
structure GotQ (Y : Pn → Prop) (w wr : World) (v l : Value) (k : Nat) : Prop where
  nums : ∃ q, Nums w wr v k q ∧ ∀ y, Y y → ∀ c, c < k → q c = numR y c
  left : ∃ n z, RowV wr l n z ∧ Off (fun i => w.heap.size ≤ i) l ∧ BackR Y k n z ∧ n ≤ 300
theorem readB_seq (V : Value) (z : Nat → Nat) : 0 ≤ (readB V z).seq := Int.natCast_nonneg _
set_option maxHeartbeats 12800000 in
theorem r11told_any (A : Option Addr) (n C : Nat) (z : Nat → Nat) (vol : Int) (g : Ge) (mir slot : Int) (w : World) (hv : N64 vol) (h : RowV w (.slice A n C) n z) :
    Calls Tryz.prog 16 #[.slice A n C, .int .i64 vol, .agg (geC g), .int .i64 mir, .int .i64 slot] w (TellPostR n z vol g mir slot w) := by
  obtain ⟨w0, HG, hRG⟩ := geR w g
  obtain ⟨w1, H, hZ⟩ := zePc w0
  have HGX1 := Lib.hid (hRG.x.gr hZ.ch)
  have HV1 := Lib.hid ((h.gr hRG.ch).gr hZ.ch)
  have HC1 := Lib.hid (hRG.ch.trans hZ.ch)
  have HHW := Lib.hid (show w.heap.size ≤ H by rw [← hZ.sz]; exact hRG.ch.size)
  have HRG := Lib.hid hRG
  have HZ := Lib.hid hZ
  have HVO := Lib.hid hv
  clear hZ h hRG hv
  go_enter Tryz.func16, Tryz.ntmps16
  go_wp2_with (first | ((with_reducible refine wpList_isOp (.box 23 (.tmp 2)) rfl ?_); refine wpList_boxing _ w0 rfl 23 (.tmp 2) rfl (geC g) HG rfl (by exact HRG.out.sz) (by exact HRG.out.al) ?_) | ((with_reducible refine wpList_isOp (.alloc 26) rfl ?_); refine wpList_making _ w1 rfl 26 rfl (pcC pn0 (.slice none 0 0)) H (zero_pc _) (by exact HZ.out.sz) (by exact HZ.out.al) ?_) | fail)
  refine (ropen_any A n C z _ HV1.out).mono ?_
  rintro e w2 ⟨V, rfl, hb2, hc2⟩
  obtain ⟨o, ho⟩ : ∃ o, o = openB n z V := ⟨_, rfl⟩
  rw [← ho] at hb2
  rw [← ho]
  obtain ⟨w3, H3, hZ3⟩ := zeR w2
  obtain ⟨A', C', hoV, _⟩ := id hb2.row
  obtain ⟨w4, h4⟩ := stR (b := o) hZ3.cx ⟨_, _, _, hoV⟩
  have hc4 : Ch (fun _ => False) w2 w4 := hZ3.ch.over h4.ch (by rw [hZ3.sz]; exact Nat.le_refl _)
  have hrow := hb2.row.gr hc4
  rw [hoV] at hrow
  have HC4 := Lib.hid (hc2.trans hc4)
  have HX4 := Lib.hid h4.cx
  have HROW := Lib.hid hrow
  have HO := Lib.hid ho
  have HOV := Lib.hid hoV
  have HZ3 := Lib.hid hZ3
  have H4 := Lib.hid h4
  have HBN := Lib.hid (fun w => build_pc w)
  have HNONE := Lib.hid (show ∀ wr, (∀ y, ¬ TellsR n z vol g mir slot y) → Ch (fun _ => False) w1 wr → ∃ w5, StPc wr w5 H pn0 (.slice none 0 0) ∧ TellPostR n z vol g mir slot w (.returned (.tuple #[.agg (pcC pn0 (.slice none 0 0)), .bool false])) w5 from fun wr hn hc => by
    have hx := (hc.block H (blk_lt (o := .cells (pcC pn0 (.slice none 0 0)) 26 (0, 0)) HZ.out.cx) (fun f => f)).trans HZ.out.cx
    obtain ⟨w5, h5⟩ := stPc pn0 hx slV_nil
    exact ⟨w5, h5, none, _, fun y => ⟨fun q => (by cases q), fun q => absurd q (hn y)⟩, rfl, RowN.nil _ _ _, (HC1.out.trans hc).new (h5.ch.mono fun j _ hj => by rw [hj]; exact HHW.out)⟩)
  clear hb2 hc2 hc4 hZ3 h4 hrow ho hoV
  obtain ⟨E, hEE⟩ : ∃ E, E = openQ n z := ⟨_, rfl⟩
  have HEE := Lib.hid hEE
  rw [← hEE]
  clear hEE
  obtain ⟨x0, x1, x2, x3⟩ := HGX1.out.gr HC4.out
  go_wp2_with (first
    | ((with_reducible refine wpList_isOp (.alloc 80) rfl ?_); refine wpList_making _ w3 rfl 80 rfl (bkC bk0) H3 (zero_bk _) (by exact HZ3.out.sz) (by exact HZ3.out.al) ?_)
    | ((with_reducible refine wpList_isOp (.store 80 (.tmp 12) (.tmp 31)) rfl ?_); refine wpList_storing _ w4 rfl 80 (.tmp 12) (.tmp 31) rfl (.agg (bkC o)) ⟨H3, 0, none⟩ rfl rfl (by exact H4.out.st) ?_)
    | fail)
  refine (rgmay_any g _).mono ?_
  rintro e w5 ⟨rfl, hc5⟩
  have HX5 := Lib.hid ((hc5.block H3 (blk_lt HX4.out) (fun f => f)).trans HX4.out)
  have HGX5 := Lib.hid ((HGX1.out.gr HC4.out).gr hc5)
  have HC5 := Lib.hid (HC4.out.trans hc5)
  have HROW5 := Lib.hid (HROW.out.gr hc5)
  clear x0 x1 x2 x3 hc5 HROW HZ3 H4
  have b4 : w5.cell? ⟨H3, 4, none⟩ = some (.int .i64 o.seq) := blk_cell HX5.out
  obtain ⟨x0, _, _, _⟩ := HGX5.out
  cases hop : opensB n z
  case false =>
    obtain ⟨wn, hn, hp⟩ := HNONE.out w5 (fun y hy => by have := hy.opens; rw [hop] at this; cases this) HC5.out
    have HN := Lib.hid hn
    have HP := Lib.hid hp
    have t1 : (E != 0) = true := by
      have hE : E ≠ 0 := fun q => by have := openE_zero.1 (HEE.out.symm.trans q); rw [hop] at this; cases this
      simpa using hE
    clear hn hp hop b4 x0
    go_wp2_with (first
      | ((with_reducible refine wpList_isOp (.build 26 #[]) rfl ?_); refine wpList_building _ rfl 26 #[] rfl _ (by exact HBN.out _) ?_)
      | ((with_reducible refine wpList_isOp (.store 26 (.tmp 10) (.tmp 50)) rfl ?_); refine wpList_storing _ wn rfl 26 (.tmp 10) (.tmp 50) rfl (.agg (pcC pn0 (.slice none 0 0))) ⟨H, 0, none⟩ rfl rfl (by exact HN.out.st) ?_)
      | fail)
    exact bodyPost_ret (v := .tuple #[.agg (pcC pn0 (.slice none 0 0)), .bool false]) (results_pc Tryz.results16 _ _ H pn0 _ rfl HN.out.cx) rfl HP.out
  obtain rfl : E = 0 := HEE.out.trans (openE_zero.2 hop)
  cases hg : mayG g
  case false =>
    obtain ⟨wn, hn, hp⟩ := HNONE.out w5 (fun y hy => by have := (rokB_iff.1 hy.sec).2.1; rw [hg] at this; cases this) HC5.out
    have HN := Lib.hid hn
    have HP := Lib.hid hp
    clear hn hp hop b4 x0 hg
    go_wp2_with (first
      | ((with_reducible refine wpList_isOp (.build 26 #[]) rfl ?_); refine wpList_building _ rfl 26 #[] rfl _ (by exact HBN.out _) ?_)
      | ((with_reducible refine wpList_isOp (.store 26 (.tmp 10) (.tmp 50)) rfl ?_); refine wpList_storing _ wn rfl 26 (.tmp 10) (.tmp 50) rfl (.agg (pcC pn0 (.slice none 0 0))) ⟨H, 0, none⟩ rfl rfl (by exact HN.out.st) ?_)
      | fail)
    exact bodyPost_ret (v := .tuple #[.agg (pcC pn0 (.slice none 0 0)), .bool false]) (results_pc Tryz.results16 _ _ H pn0 _ rfl HN.out.cx) rfl HP.out
  have HRB := Lib.hid (show o = readB V z from HO.out.trans (openB_yes hop V))
  have hsq : 0 ≤ o.seq := by rw [HRB.out]; exact readB_seq V z
  obtain ⟨⟨wa, wb⟩, _⟩ := may_parts hg
  have wz : ¬ g.wal = 0 := by omega
  by_cases hsl : o.seq % g.wal = slot
  case neg =>
    obtain ⟨wn, hn, hp⟩ := HNONE.out w5 (fun y hy => hsl (by rw [HRB.out, (hy.back V).seq]; exact hy.slot)) HC5.out
    have HN := Lib.hid hn
    have HP := Lib.hid hp
    have t1 : (o.seq % g.wal != slot) = true := by simpa using hsl
    clear hn hp hop hg hsl
    go_wp2_with (first
      | ((with_reducible refine wpList_isOp (.build 26 #[]) rfl ?_); refine wpList_building _ rfl 26 #[] rfl _ (by exact HBN.out _) ?_)
      | ((with_reducible refine wpList_isOp (.store 26 (.tmp 10) (.tmp 50)) rfl ?_); refine wpList_storing _ wn rfl 26 (.tmp 10) (.tmp 50) rfl (.agg (pcC pn0 (.slice none 0 0))) ⟨H, 0, none⟩ rfl rfl (by exact HN.out.st) ?_)
      | fail)
    exact bodyPost_ret (v := .tuple #[.agg (pcC pn0 (.slice none 0 0)), .bool false]) (results_pc Tryz.results16 _ _ H pn0 _ rfl HN.out.cx) rfl HP.out
  have t1 : (o.seq % g.wal != slot) = false := by simpa using hsl
  have HSL := Lib.hid hsl
  obtain ⟨Y, hY⟩ : ∃ Y : Pn → Prop, Y = fun y => TellsR n z vol g mir slot y := ⟨_, rfl⟩
  have HYD := Lib.hid hY
  have HYM := Lib.hid (show ∀ y, Y y → mayP y = true from fun y hy => by rw [hY] at hy; exact hy.may)
  have HG0 := Lib.hid (show GotQ Y w5 w5 (.slice none 0 0) (.slice A' o.len C') 0 from ⟨⟨fun _ => 0, Nums.start w5 _, fun y _ c hc => absurd hc (Nat.not_lt_zero c)⟩, ⟨o.len, o.z, HROW5.out, HROW5.out.low, by rw [HO.out]; exact BackR.first (fun y hy => ⟨vol, g, mir, slot, by rw [hY] at hy; exact hy⟩) V, by have := open_len (n := n) (z := z) (V := V); rw [HO.out]; omega⟩⟩)
  have c5 : w5.cell? ⟨H3, 5, none⟩ = some (.slice A' o.len C') := by
    have : w5.cell? ⟨H3, 5, none⟩ = some o.V := blk_cell HX5.out
    rw [HOV.out] at this
    exact this
  have HOP := Lib.hid hop
  clear hop hY hg hsl wa wb
  go_wp2_with fail
  clear c5 b4 x0 t1 hsq wz
  go_loopw [15, 16, 17, 18, 19, 20] (fun v l k' _ _ _ wr => ∃ k : Nat, k ≤ 4 ∧ k' = .int .i64 k ∧ Hid (GotQ Y w5 wr v l k)) (fun _ _ k' _ _ _ _ => 4 - (intOf k').toNat)
  case atStart => exact ⟨0, Nat.zero_le _, rfl, HG0⟩
  case round =>
    obtain ⟨k, hk, rfl, HK⟩ := hrel
    clear HG0
    obtain ⟨⟨q, hq, hqy⟩, ⟨nn, zz, hrow, hoff, hback, hnn⟩⟩ := HK.out
    by_cases hlt : k < 4
    · have i1 : (0 : Int) ≤ (k : Int) := Int.natCast_nonneg _
      have i2 : (k : Int) < 4 := by omega
      obtain ⟨A5, C5, rfl, _⟩ := id hrow
      obtain ⟨kk, ee, hrd⟩ := Cod.rd_some nn zz
      obtain ⟨b1, b2⟩ := hback.next hlt HYM.out hrd
      have HGET := Lib.hid (rget_any A5 nn C5 zz kk ee wr hrow hrd)
      have HB1 := Lib.hid b1
      have HB2 := Lib.hid b2
      have HN := Lib.hid hq
      have HQY := Lib.hid hqy
      have HLT := Lib.hid hlt
      have HOFF := Lib.hid hoff
      have HNL := Lib.hid hnn
      clear hlt hq hqy hrow hback b1 b2 hrd HK hoff hnn
      go_wp2_with fail
      refine HGET.out.mono ?_
      rintro e w6 ⟨A6, C6, d, rfl, hw5, hr6, hof6⟩
      have hc5 : Ch (fun _ => False) wr w6 := by rw [hw5]; exact (Ch.refl _ wr).drewN d
      obtain ⟨vv, hvv⟩ : ∃ v, v = Cod.resV T63 zz kk ee := ⟨_, rfl⟩
      obtain ⟨ve, hve⟩ : ∃ v, v = Cod.resE T63 zz kk ee := ⟨_, rfl⟩
      obtain ⟨vn, hvn⟩ : ∃ v, v = nn - Cod.resK T63 zz kk ee := ⟨_, rfl⟩
      have hr7 := hr6.gr hc5
      have ho7 := hof6 _ HOFF.out
      rw [← hvn] at hr7 HB1 ho7
      have HVN := Lib.hid (show vn ≤ 300 by have := HNL.out; omega)
      have HO7 := Lib.hid ho7
      rw [← hvv, ← hve] at HB2
      rw [← hvv, ← hve, ← hvn]
      have HC6 := Lib.hid (HN.out.ch.trans hc5)
      have HN5 := Lib.hid (show Nums w5 w6 _ k q from ⟨ownsRow_ch HN.out.own hc5, HN.out.ch.trans hc5⟩)
      have HR7 := Lib.hid hr7
      clear hw5 hr6 hr7 hc5 hvv hve hvn HGET hof6 ho7 HOFF
      by_cases hz : ve = 0
      · subst hz
        have hq2 : Nums w5 w6 _ k (up q k (vv : Int)) := ⟨by rw [← numL_congr fun c hc => (up_other q (vv : Int) (show c ≠ k by omega)).symm]; exact HN5.out.own, HN5.out.ch⟩
        obtain ⟨g2, cap, w7, hr8, hn8⟩ := hq2.app (by have := HLT.out; omega)
        have HRUN := Lib.hid (hr8 (vv : Int) (up_same q k (vv : Int)).symm)
        have HG := Lib.hid (show GotQ Y w5 w7 (.slice (some ⟨g2, 0, none⟩) (k + 1) cap) (.slice A6 vn C6) (k + 1) from ⟨⟨_, hn8, fun y hy c hc => by
          by_cases w : c = k
          · subst w; rw [up_same]; exact (HB2.out y hy).2
          · rw [up_other _ _ w]; exact HQY.out y hy c (by omega)⟩, ⟨vn, _, row_via HR7.out HO7.out HN5.out.ch hn8.ch, HO7.out, HB1.out, HVN.out⟩⟩)
        clear hq2 hr8 hn8
        go_wp2_with (at_builtin; refine wpList_appI _ rfl (.tmp 66) (.tmp 68) rfl rfl _ _ (.slice (some ⟨g2, 0, none⟩) (k + 1) cap) w7 rfl rfl (by exact HRUN.out) ?_)
        go_roundw
        case rel => exact ⟨k + 1, HLT.out, by go_num, HG⟩
        case measure => have := HLT.out; simp [intOf]; omega
      · have t1 : ((ve : Int) != 0) = true := by simp; omega
        obtain ⟨w7, h6, hp⟩ := HNONE.out w6 (fun y hy => hz (HB2.out y (by rw [HYD.out]; exact hy)).1) (HC5.out.trans HC6.out)
        have H6 := Lib.hid h6
        have HP := Lib.hid hp
        clear hz h6 hp
        go_wp2_with (first
          | ((with_reducible refine wpList_isOp (.build 26 #[]) rfl ?_); refine wpList_building _ rfl 26 #[] rfl _ (by exact HBN.out _) ?_)
          | ((with_reducible refine wpList_isOp (.store 26 (.tmp 10) (.tmp 65)) rfl ?_); refine wpList_storing _ w7 rfl 26 (.tmp 10) (.tmp 65) rfl (.agg (pcC pn0 (.slice none 0 0))) ⟨H, 0, none⟩ rfl rfl (by exact H6.out.st) ?_)
          | fail)
        exact bodyPost_ret (v := .tuple #[.agg (pcC pn0 (.slice none 0 0)), .bool false]) (results_pc Tryz.results16 _ _ H pn0 _ rfl H6.out.cx) rfl HP.out
    · obtain rfl : k = 4 := by omega
      obtain ⟨A5, C5, rfl, _⟩ := id hrow
      obtain ⟨kk, ee, hrd⟩ := Cod.rd_some nn zz
      have HGB := Lib.hid (rgb_any A5 nn C5 zz kk ee wr hrow hrd (by omega))
      have HBL := Lib.hid (hback.last HYM.out hrd)
      have HQY := Lib.hid hqy
      have HNM := Lib.hid hq
      have HBZ := Lib.hid hrow.bytes
      have HRDL := Lib.hid (show bE nn zz kk ee = 0 → bL nn zz kk ee ≤ nn - Cod.resK T63 zz kk ee from fun e => by
        obtain ⟨e1, _, _, _, e5⟩ := b_ok e
        rw [e1]; exact e5)
      clear hq hqy hrow hoff hback hrd hlt hk HK hnn
      rw [show ((4 : Nat) : Int) = 4 from rfl]
      go_wp2_with fail
      refine HGB.out.mono ?_
      rintro e w6 ⟨v, yv, rfl, hvn, hc6⟩
      obtain ⟨ve, hve⟩ : ∃ v, v = bE nn zz kk ee := ⟨_, rfl⟩
      rw [← hve] at HBL HRDL
      rw [← hve]
      have HC6 := Lib.hid (HC5.out.trans (HNM.out.ch.trans hc6))
      by_cases hz : ve = 0
      case neg =>
        have t1 : ((ve : Int) != 0) = true := by simp; omega
        obtain ⟨w7, h6, hp⟩ := HNONE.out w6 (fun y hy => hz (HBL.out y (by rw [HYD.out]; exact hy)).1) HC6.out
        have H6 := Lib.hid h6
        have HP := Lib.hid hp
        clear hz h6 hp hve hvn hc6
        go_wp2_with (first
          | ((with_reducible refine wpList_isOp (.build 26 #[]) rfl ?_); refine wpList_building _ rfl 26 #[] rfl _ (by exact HBN.out _) ?_)
          | ((with_reducible refine wpList_isOp (.store 26 (.tmp 10) (.tmp 79)) rfl ?_); refine wpList_storing _ w7 rfl 26 (.tmp 10) (.tmp 79) rfl (.agg (pcC pn0 (.slice none 0 0))) ⟨H, 0, none⟩ rfl rfl (by exact H6.out.st) ?_)
          | fail)
        exact bodyPost_ret (v := .tuple #[.agg (pcC pn0 (.slice none 0 0)), .bool false]) (results_pc Tryz.results16 _ _ H pn0 _ rfl H6.out.cx) rfl HP.out
      subst hz
      obtain ⟨L, hL⟩ : ∃ L, L = rowL (bL nn zz kk ee) (fun i => zz (Cod.resK T63 zz kk ee + i)) := ⟨_, rfl⟩
      have hLl : L.length = bL nn zz kk ee := by rw [hL]; unfold rowL; simp
      rw [← hL] at HBL
      have hvL : RowN wr w6 v L.length (Cod.litZ L) := by
        rw [hLl]
        exact hvn.congr fun c hc => by rw [hL]; exact (rowL_litz _ (fun i => zz (Cod.resK T63 zz kk ee + i)) hc).symm
      have hLb : ∀ x ∈ L, x < 256 := fun x hx => by
        rw [hL] at hx
        unfold rowL at hx
        obtain ⟨c, hc, rfl⟩ := List.mem_map.1 hx
        exact HBZ.out _ (by have := HRDL.out rfl; have := List.mem_range.1 hc; omega)
      have hvw : RowN w w6 v L.length (Cod.litZ L) := hvL.low (HC1.out.trans (HC5.out.trans HNM.out.ch)).size
      obtain ⟨A8, C8, hv8⟩ := hvw.len
      obtain ⟨LN, hLN⟩ : ∃ LN, LN = L.length := ⟨_, rfl⟩
      rw [← hLN] at hv8 hvw
      subst hv8
      have HLN := Lib.hid hLN
      have HSV : Hid (SlV (.slice A8 LN C8)) := Lib.hid ⟨_, _, _, rfl⟩
      have hx3 := ((HNM.out.ch.trans hc6).block H3 (blk_lt HX5.out) (fun f => f)).trans HX5.out
      have hV := (own_intV HNM.out.own (by omega)).gr hc6
      obtain ⟨A9, C9, rfl, _⟩ := hV.len
      obtain ⟨gq, go, rfl, hcs⟩ := hV.at (by omega)
      have hq0 : w6.cell? ⟨gq, go, none⟩ = some (.int .i64 (q 0)) := hcs 0 (by omega)
      have hq1 := hcs 1 (by omega)
      have hq2 := hcs 2 (by omega)
      have hq3 := hcs 3 (by omega)
      have d3 : w6.cell? ⟨H3, 3, none⟩ = some (.int .i64 o.epoch) := blk_cell hx3
      have d4 : w6.cell? ⟨H3, 4, none⟩ = some (.int .i64 o.seq) := blk_cell hx3
      obtain ⟨H6, hH6⟩ : ∃ H6, H6 = w6.heap.size := ⟨_, rfl⟩
      obtain ⟨x, hx⟩ : ∃ x, x = pnOf o.seq o.epoch q L := ⟨_, rfl⟩
      obtain ⟨w7, hw7⟩ : ∃ w7, w7 = (w6.alloc (.cells (pcC x (.slice A8 LN C8)) 26)).drew := ⟨_, rfl⟩
      have hcw : Ch (fun _ => False) w6 w7 := by rw [hw7]; exact ((Ch.refl _ w6).alloc _ _).drew
      have hx7 : w7.heap[H6]? = some (.cells (pcC x (.slice A8 LN C8)) 26 (0, 0)) := by rw [hw7, hH6]; exact heap_alloc_new w6 _
      have hxl : x.B = L := by rw [hx]; rfl
      have HXL := Lib.hid hxl
      have HVW := Lib.hid (show RowN w w7 (.slice A8 LN C8) x.B.length (Cod.litZ x.B) by rw [hxl, ← HLN.out]; exact hvw.gr hcw)
      have HXB := Lib.hid (show ∀ c ∈ x.B, c < 256 by rw [hxl]; exact hLb)
      have HXY := Lib.hid (show ∀ y, TellsR n z vol g mir slot y → x = y from fun y hy => by
        have hyY : Y y := by rw [HYD.out]; exact hy
        have s := hy.back V
        rw [← HRB.out] at s
        rw [hx]
        exact pnOf_eq s.seq s.epoch (fun c hc => HQY.out y hyY c hc) (HBL.out y hyY).2)
      have HSEQ := Lib.hid (show x.seq % g.wal = slot by rw [hx]; exact HSL.out)
      have HX7 := Lib.hid hx7
      have HL7 := Lib.hid (load_pc hx7)
      have HC7 := Lib.hid (HC6.out.trans hcw)
      have HS := Lib.hid (r11sec_any vol g mir x (.slice A8 LN C8) w7 HVO.out ⟨HVW.out.row, HXB.out⟩)
      have HV7 := Lib.hid (HV1.out.gr (HC6.out.trans hcw))
      have HW7 := Lib.hid hw7
      rw [hx] at hw7
      unfold pcC pnOf at hw7
      simp only at hw7
      clear hvn hc6 hve hL hLl hLN hvL hLb hvw hx3 hV hcs hcw hx7 hxl hx HBL HRDL HBZ HNM HQY HGB
      go_wp2_with fail
      go_region_held3 (fun w' => w'.cell? ⟨H3, 4, none⟩ = some (.int .i64 o.seq) ∧ w'.cell? ⟨H3, 3, none⟩ = some (.int .i64 o.epoch) ∧ w'.cell? ⟨gq, go, none⟩ = some (.int .i64 (q 0)) ∧ w'.cell? ⟨gq, go + 1, none⟩ = some (.int .i64 (q 1)) ∧ w'.cell? ⟨gq, go + 2, none⟩ = some (.int .i64 (q 2)) ∧ w'.cell? ⟨gq, go + 3, none⟩ = some (.int .i64 (q 3))) (first | go_keep) (first | (fail))
      rw [← hw7, ← hH6]
      clear hw7 hH6 hq0 hq1 hq2 hq3 d3 d4
      obtain ⟨x0, x1, x2, x3⟩ := HGX1.out.gr HC7.out
      go_wp2_with (first | ((with_reducible refine wpList_isOp (.load 26 (.tmp 24)) rfl ?_); refine wpList_loading _ rfl 26 (.tmp 24) rfl (.agg (pcC x (.slice A8 LN C8))) ⟨H6, 0, none⟩ rfl (by exact HL7.out) ?_) | fail)
      refine HS.out.mono ?_
      rintro e w8 ⟨A7, C7, rfl, ho8, hc8⟩
      have HR8 := Lib.hid (ownsRow_rowV ho8 (by unfold secRN; split <;> omega) (sectR_b HXB.out _))
      have HV8 := Lib.hid (HV7.out.gr hc8)
      have HC8 := Lib.hid (HC7.out.trans hc8)
      have HX8 := Lib.hid ((hc8.block H6 (blk_lt HX7.out) (fun f => f)).trans HX7.out)
      have HVW8 := Lib.hid (HVW.out.gr hc8)
      clear ho8 hc8 x0 x1 x2 x3
      go_wp2_with fail
      refine (same_any _ _ _ _ _ _ _ _ _ HV8.out HR8.out).mono ?_
      rintro e w9 ⟨rfl, dd, hw9⟩
      have hc9 : Ch (fun _ => False) w8 w9 := by rw [hw9]; exact (Ch.refl _ w8).drewN dd
      have hc19 := HC8.out.trans hc9
      have hxH := (hc19.block H (blk_lt (o := .cells (pcC pn0 (.slice none 0 0)) 26 (0, 0)) HZ.out.cx) (fun f => f)).trans HZ.out.cx
      have HL9 := Lib.hid (load_pc ((hc9.block H6 (blk_lt HX8.out) (fun f => f)).trans HX8.out))
      obtain ⟨wn, hn⟩ := stPc pn0 hxH slV_nil
      obtain ⟨wy, hy⟩ := stPc x hxH HSV.out
      have HPN := Lib.hid (show ¬ TellsR n z vol g mir slot x → TellPostR n z vol g mir slot w (.returned (.tuple #[.agg (pcC pn0 (.slice none 0 0)), .bool false])) wn from fun q => ⟨none, _, fun y => ⟨fun q => (by cases q), fun q2 => absurd (by rw [HXY.out y q2]; exact q2) q⟩, rfl, RowN.nil _ _ _, (HC1.out.trans hc19).new (hn.ch.mono fun j _ hj => by rw [hj]; exact HHW.out)⟩)
      have HPY := Lib.hid (show TellsR n z vol g mir slot x → TellPostR n z vol g mir slot w (.returned (.tuple #[.agg (pcC x (.slice A8 LN C8)), .bool true])) wy from fun q => ⟨some x, (.slice A8 LN C8), fun y => ⟨fun q2 => by injection q2 with q2; rw [← q2]; exact q, fun q2 => by rw [HXY.out y q2]⟩, rfl, (HVW8.out.gr hc9).set hy.ch hxH (by decide), (HC1.out.trans hc19).new (hy.ch.mono fun j _ hj => by rw [hj]; exact HHW.out)⟩)
      have HN := Lib.hid hn
      have HY := Lib.hid hy
      clear hw9 hc9 hc19 hxH hn hy
      cases hs : rokB vol g mir x
      · have HE : secRE vol g mir x = 1 := by unfold secRE; rw [hs]; rfl
        have HT := Lib.hid (HPN.out fun q => by have := q.sec; rw [hs] at this; cases this)
        rw [HE]
        clear hs HE HR8
        go_wp2_with (first
          | ((with_reducible refine wpList_isOp (.build 26 #[]) rfl ?_); refine wpList_building _ rfl 26 #[] rfl _ (by exact HBN.out _) ?_)
          | ((with_reducible refine wpList_isOp (.store 26 (.tmp 10) (.tmp 115)) rfl ?_); refine wpList_storing _ wn rfl 26 (.tmp 10) (.tmp 115) rfl (.agg (pcC pn0 (.slice none 0 0))) ⟨H, 0, none⟩ rfl rfl (by exact HN.out.st) ?_)
          | fail)
        exact bodyPost_ret (v := .tuple #[.agg (pcC pn0 (.slice none 0 0)), .bool false]) (results_pc Tryz.results16 _ _ H pn0 _ rfl HN.out.cx) rfl HT.out
      · have HE : secRE vol g mir x = 0 := by unfold secRE; rw [hs]; rfl
        have HQ := Lib.hid (show secRN vol g mir x = 256 by unfold secRN; rw [hs]; rfl)
        have HSK := Lib.hid hs
        rw [HE]
        clear hs HE
        cases hq : eqB n (secRN vol g mir x) z (sectR vol g mir x)
        · have HT := Lib.hid (HPN.out fun q => by
            have := decide_eq_false_iff_not.1 hq
            exact this ⟨by rw [HQ.out, q.n], fun c hc => q.z c (by rw [q.n] at hc; exact hc)⟩)
          clear hq
          go_wp2_with (first
            | ((with_reducible refine wpList_isOp (.build 26 #[]) rfl ?_); refine wpList_building _ rfl 26 #[] rfl _ (by exact HBN.out _) ?_)
            | ((with_reducible refine wpList_isOp (.store 26 (.tmp 10) (.tmp 115)) rfl ?_); refine wpList_storing _ wn rfl 26 (.tmp 10) (.tmp 115) rfl (.agg (pcC pn0 (.slice none 0 0))) ⟨H, 0, none⟩ rfl rfl (by exact HN.out.st) ?_)
            | fail)
          exact bodyPost_ret (v := .tuple #[.agg (pcC pn0 (.slice none 0 0)), .bool false]) (results_pc Tryz.results16 _ _ H pn0 _ rfl HN.out.cx) rfl HT.out
        · have HT := Lib.hid (HPY.out (by
            obtain ⟨q1, q2⟩ := of_decide_eq_true hq
            rw [HQ.out] at q1
            exact ⟨HSK.out, q1, fun c hc => q2 c (by rw [q1]; exact hc), HSEQ.out, HXB.out⟩))
          clear hq
          go_wp2_with (first
            | ((with_reducible refine wpList_isOp (.load 26 (.tmp 24)) rfl ?_); refine wpList_loading _ rfl 26 (.tmp 24) rfl (.agg (pcC x (.slice A8 LN C8))) ⟨H6, 0, none⟩ rfl (by exact HL9.out) ?_)
            | ((with_reducible refine wpList_isOp (.store 26 (.tmp 10) (.tmp 116)) rfl ?_); refine wpList_storing _ wy rfl 26 (.tmp 10) (.tmp 116) rfl (.agg (pcC x (.slice A8 LN C8))) ⟨H, 0, none⟩ rfl rfl (by exact HY.out.st) ?_)
            | fail)
          exact bodyPost_ret (v := .tuple #[.agg (pcC x (.slice A8 LN C8)), .bool true]) (results_pc Tryz.results16 _ _ H x (.slice A8 LN C8) rfl HY.out.cx) rfl HT.out
#print axioms r11told_any
end Go.Proofs.YteleknojohnlbaaGreat
namespace Go.Proofs.YteleknojohnlbaaGreat
open Go.RowKit
set_option linter.unusedVariables false
set_option maxRecDepth 100000
set_option linter.unusedSimpArgs false

theorem pc_cells {w : World} {H n : Nat} {p : Pn} {A : Option Addr} {C : Nat} (h : w.heap[H]? = some (.cells (pcC p (.slice A n C)) 26 (0, 0))) :
    (w.cell? ⟨H, 0, none⟩ = some (.int .i64 p.seq) ∧ w.cell? ⟨H, 1, none⟩ = some (.int .i64 p.ep) ∧ w.cell? ⟨H, 2, none⟩ = some (.int .i64 p.fr) ∧ w.cell? ⟨H, 3, none⟩ = some (.int .i64 p.ch)) ∧ (w.cell? ⟨H, 4, none⟩ = some (.int .i64 p.ix) ∧ w.cell? ⟨H, 5, none⟩ = some (.int .i64 p.ofn) ∧ w.cell? ⟨H, 6, none⟩ = some (.slice A n C)) :=
  ⟨⟨blk_cell h, blk_cell h, blk_cell h, blk_cell h⟩, blk_cell h, blk_cell h, blk_cell h⟩
theorem rpair_same (p : Pn) (A A2 : Option Addr) (n C C2 : Nat) (w : World) (hn : n = p.B.length) (ha : RowV w (.slice A n C) n (Cod.litZ p.B)) (hb : RowV w (.slice A2 n C2) n (Cod.litZ p.B)) : Calls Tryz.prog 17 #[.agg (pcC p (.slice A n C)), .agg (pcC p (.slice A2 n C2))] w (Ans (.bool true) w) := by
  obtain ⟨w1, H, hR⟩ := boxR w (pcC p (.slice A n C)) 26
  obtain ⟨w2, H2, hR2⟩ := boxR w1 (pcC p (.slice A2 n C2)) 26
  have HR := Lib.hid hR
  have HR2 := Lib.hid hR2
  have hx1 := (hR2.ch.block H (blk_lt hR.cx) (fun f => f)).trans hR.cx
  obtain ⟨_, _, _, x6⟩ := pc_cells hx1
  obtain ⟨_, _, _, y6⟩ := pc_cells hR2.cx
  have HS := Lib.hid (same_any A A2 n n C C2 (Cod.litZ p.B) (Cod.litZ p.B) w2 ((ha.gr hR.ch).gr hR2.ch) ((hb.gr hR.ch).gr hR2.ch))
  rw [eqB_yes rfl (fun _ _ => rfl)] at HS
  have HX1 := Lib.hid hx1
  clear hR hR2 hx1 ha hb hn
  go_enter Tryz.func17, Tryz.ntmps17
  go_wp2_with (first | ((with_reducible refine wpList_isOp (.box 26 (.tmp 0)) rfl ?_); refine wpList_boxing _ w1 rfl 26 (.tmp 0) rfl (pcC p (.slice A n C)) H rfl (by exact HR.out.sz) (by exact HR.out.al) ?_) | ((with_reducible refine wpList_isOp (.box 26 (.tmp 1)) rfl ?_); refine wpList_boxing _ w2 rfl 26 (.tmp 1) rfl (pcC p (.slice A2 n C2)) H2 rfl (by exact HR2.out.sz) (by exact HR2.out.al) ?_) | fail)
  refine HS.out.mono ?_
  rintro e w3 ⟨rfl, j, hj⟩
  have hc : Ch (fun _ => False) w2 w3 := by rw [hj]; exact (Ch.refl _ w2).drewN j
  have k1 := (hc.block H (blk_lt HX1.out) (fun f => f)).trans HX1.out
  have k2 := (hc.block H2 (blk_lt HR2.out.cx) (fun f => f)).trans HR2.out.cx
  clear x6 y6 hj HS
  obtain ⟨⟨x0, x1, x2, x3⟩, x4, x5, x6⟩ := pc_cells k1
  obtain ⟨⟨y0, y1, y2, y3⟩, y4, y5, y6⟩ := pc_cells k2
  have HC := Lib.hid ((HR.out.ch.trans HR2.out.ch).trans hc)
  clear k1 k2 hc
  go_wp2
  go_ret
  exact ⟨rfl, HC.out⟩
#print axioms rpair_same
end Go.Proofs.YteleknojohnlbaaGreat
namespace Go.Proofs.YteleknojohnlbaaGreat
open Go.RowKit
set_option linter.unusedVariables false
set_option maxRecDepth 100000
set_option linter.unusedSimpArgs false

set_option maxHeartbeats 12800000 in
theorem ringTells_of {A : Option Addr} {C n : Nat} {z : Nat → Nat} (vol : Int) (g : Ge) (mir : Int) (p : Pn) (v : Value) (slot : Int) (w : World) (hv : N64 vol) (hp : PcIs w p (.slice A p.B.length C)) (hR : RowV w v n z) : Calls Tryz.prog 3 #[.int .i64 vol, .agg (geC g), .int .i64 mir, .agg (pcC p (.slice A p.B.length C)), v, .int .i64 slot] w (Told w) := by
  obtain ⟨A1, C1, rfl, hle, _⟩ := id hR
  obtain ⟨w1, H, hRG⟩ := geR w g
  obtain ⟨w1b, F, hF⟩ := boxR w1 (pcC p (.slice A p.B.length C)) 26
  have HRG := Lib.hid hRG
  have HF := Lib.hid hF
  have HC1 := Lib.hid (hRG.ch.trans hF.ch)
  have HGX := Lib.hid (hRG.x.gr hF.ch)
  have HP := Lib.hid ((hp.gr hRG.ch).gr hF.ch)
  have HV1 := Lib.hid ((hR.gr hRG.ch).gr hF.ch)
  have HVO := Lib.hid hv
  have hpl : p.B.length ≤ 140737488351232 := by obtain ⟨_, _, e, l, _⟩ := hp.row; exact l.1
  have HPL := Lib.hid hpl
  have HAW := Lib.hid (rawake_any w1b)
  obtain ⟨nb, hnb⟩ : ∃ nb, nb = p.B.length := ⟨_, rfl⟩
  have HNB := Lib.hid hnb
  rw [← hnb] at HP HF ⊢
  clear hRG hF hp hR hv hnb hle hpl
  go_enter Tryz.func3, Tryz.ntmps3
  go_wp2_with (first | ((with_reducible refine wpList_isOp (.box 23 (.tmp 1)) rfl ?_); refine wpList_boxing _ w1 rfl 23 (.tmp 1) rfl (geC g) H rfl (by exact HRG.out.sz) (by exact HRG.out.al) ?_) | ((with_reducible refine wpList_isOp (.box 26 (.tmp 3)) rfl ?_); refine wpList_boxing _ w1b rfl 26 (.tmp 3) rfl (pcC p (.slice A nb C)) F rfl (by exact HF.out.sz) (by exact HF.out.al) ?_) | fail)
  refine HAW.out.mono ?_
  rintro e w2 ⟨rfl, hc2⟩
  have HC2 := Lib.hid hc2
  have HX2 := Lib.hid ((hc2.block F (blk_lt HF.out.cx) (fun f => f)).trans HF.out.cx)
  have HL2 := Lib.hid (load_pc HX2.out)
  obtain ⟨x0, x1, x2, x3⟩ := HGX.out.gr hc2
  have x6 := (pc_x HX2.out).2.2.2.2.2.2
  clear hc2
  by_cases hn : 600 < n
  · have t1 : (600 : Int) < (n : Int) := by omega
    clear hn
    go_wp2
    go_ret
    exact ⟨rfl, HC1.out.trans HC2.out⟩
  have t1 : ¬ (600 : Int) < (n : Int) := by omega
  by_cases hn2 : 600 < nb
  · have t2 : (600 : Int) < (nb : Int) := by omega
    clear hn hn2
    go_wp2
    go_ret
    exact ⟨rfl, HC1.out.trans HC2.out⟩
  have t2 : ¬ (600 : Int) < (nb : Int) := by omega
  clear hn hn2
  have HP2 := Lib.hid (HP.out.gr HC2.out)
  go_wp2_with (first | ((with_reducible refine wpList_isOp (.load 26 (.tmp 9)) rfl ?_); refine wpList_loading _ rfl 26 (.tmp 9) rfl (.agg (pcC p (.slice A nb C))) ⟨F, 0, none⟩ rfl (by exact HL2.out) ?_) | fail)
  clear t1 t2 x6
  have HIS : Hid (∀ w', Ch (fun _ => False) w2 w' → PcIs w' p (.slice A nb C)) := Lib.hid fun w' k => HP2.out.gr k
  refine (rsector_any vol g mir p (.slice A nb C) _ HVO.out (HIS.out _ (Ch.refl _ w2))).mono ?_
  rintro e w3 ⟨A3, C3, rfl, ho3, hc3⟩
  have HX3 := Lib.hid ((hc3.block F (blk_lt HX2.out) (fun f => f)).trans HX2.out)
  have HL3 := Lib.hid (load_pc HX3.out)
  have HC3 := Lib.hid (HC2.out.trans hc3)
  have HC23 := Lib.hid hc3
  have HR3 := Lib.hid (ownsRow_rowV ho3 (by unfold secRN; split <;> omega) (sectR_b HP2.out.byt _))
  clear ho3 hc3 x0 x1 x2 x3
  obtain ⟨x0, x1, x2, x3⟩ := HGX.out.gr HC3.out
  go_wp2_with (first | ((with_reducible refine wpList_isOp (.load 26 (.tmp 9)) rfl ?_); refine wpList_loading _ rfl 26 (.tmp 9) rfl (.agg (pcC p (.slice A nb C))) ⟨F, 0, none⟩ rfl (by exact HL3.out) ?_) | fail)
  refine (r11sec_any vol g mir p (.slice A nb C) _ HVO.out (HIS.out _ HC23.out)).mono ?_
  rintro e w4 ⟨A4, C4, rfl, ho4, hc4⟩
  have HX4 := Lib.hid ((hc4.block F (blk_lt HX3.out) (fun f => f)).trans HX3.out)
  have HC4 := Lib.hid (HC3.out.trans hc4)
  have HR4 := Lib.hid (ownsRow_rowV ho4 (by unfold secRN; split <;> omega) (sectR_b HP2.out.byt _))
  have HR34 := Lib.hid (HR3.out.gr hc4)
  obtain ⟨E, hE⟩ : ∃ E, E = secRE vol g mir p := ⟨_, rfl⟩
  rw [← hE]
  clear ho4 hc4 hE x0 x1 x2 x3
  go_wp2_with fail
  refine (same_any _ _ _ _ _ _ _ _ _ HR34.out HR4.out).mono ?_
  rintro e w5 ⟨rfl, dd, hw5⟩
  have hc5 : Ch (fun _ => False) w4 w5 := by rw [hw5]; exact (Ch.refl _ w4).drewN dd
  have HC5 := Lib.hid (HC4.out.trans hc5)
  have HV5 := Lib.hid (HV1.out.gr HC5.out)
  have HX5 := Lib.hid ((hc5.block F (blk_lt HX4.out) (fun f => f)).trans HX4.out)
  rw [show eqB (secRN vol g mir p) (secRN vol g mir p) (sectR vol g mir p) (sectR vol g mir p) = true from eqB_yes rfl (fun _ _ => rfl)]
  clear hw5 hc5
  obtain ⟨x0, x1, x2, x3⟩ := HGX.out.gr HC5.out
  go_wp2_with fail
  refine (rtold_any A1 n C1 z vol g mir slot _ HVO.out HV5.out).mono ?_
  rintro e w6 ⟨o, V, hto, rfl, hn6, hc6⟩
  have hVS : SlV V := by obtain ⟨A, C, e⟩ := hn6.len; exact ⟨_, _, _, e⟩
  obtain ⟨u, hu⟩ : ∃ u, u = optP o := ⟨_, rfl⟩
  obtain ⟨q, hq⟩ : ∃ q, q = o.isSome := ⟨_, rfl⟩
  rw [← hu] at hn6
  rw [← hu, ← hq]
  obtain ⟨wz7, w7, P, hV7⟩ := varPc u hVS w6
  have HC7 := Lib.hid ((HC5.out.trans hc6).trans hV7.ch)
  have HV7 := Lib.hid hV7
  have HN7 := Lib.hid ((hn6.gr hV7.ch).row)
  have HVV := Lib.hid (HV1.out.gr HC7.out)
  have HX7 := Lib.hid (((hc6.trans hV7.ch).block F (blk_lt HX5.out) (fun f => f)).trans HX5.out)
  have HTO := Lib.hid hto
  have HU := Lib.hid hu
  have HQ := Lib.hid hq
  clear hto hc6 hV7 hu hq hn6 hVS x0 x1 x2 x3
  obtain ⟨x0, x1, x2, x3⟩ := HGX.out.gr HC7.out
  go_wp2_with (first
    | ((with_reducible refine wpList_isOp (.alloc 26) rfl ?_); refine wpList_making _ wz7 rfl 26 rfl (pcC pn0 (.slice none 0 0)) P (zero_pc _) (by exact HV7.out.sz) (by exact HV7.out.al) ?_)
    | ((with_reducible refine wpList_isOp (.store 26 (.tmp 19) (.tmp 65)) rfl ?_); refine wpList_storing _ w7 rfl 26 (.tmp 19) (.tmp 65) rfl (.agg (pcC u V)) ⟨P, 0, none⟩ rfl rfl (by exact HV7.out.st) ?_)
    | fail)
  refine (r11told_any A1 n C1 z vol g mir slot _ HVO.out HVV.out).mono ?_
  rintro e w8 ⟨o', V2, hto', rfl, hn8, hc8⟩
  obtain rfl := tellR_one HTO.out hto'
  rw [← HU.out] at hn8
  rw [← HU.out, ← HQ.out]
  have hVS : SlV V2 := by obtain ⟨A, C, e⟩ := hn8.len; exact ⟨_, _, _, e⟩
  obtain ⟨wz9, w9, Q, hV9⟩ := varPc u hVS w8
  have hc9 := hc8.trans hV9.ch
  have HC9 := Lib.hid (HC7.out.trans hc9)
  have HN9 := Lib.hid ((hn8.gr hV9.ch).row)
  have HN79 := Lib.hid (HN7.out.gr hc9)
  have HLP := Lib.hid (load_pc ((hc9.block P (blk_lt HV7.out.cx) (fun f => f)).trans HV7.out.cx))
  have HLQ := Lib.hid (load_pc hV9.cx)
  have HX9 := Lib.hid ((hc9.block F (blk_lt HX7.out) (fun f => f)).trans HX7.out)
  have HV9 := Lib.hid hV9
  obtain ⟨A7, C7, hV7e, _⟩ := id HN79.out
  obtain ⟨A9, C9, hV9e, _⟩ := id HN9.out
  have HPR := Lib.hid (show Calls Tryz.prog 17 #[.agg (pcC u V), .agg (pcC u V2)] w9 (Ans (.bool true) w9) by
    have h7 := HN79.out
    have h9 := HN9.out
    rw [hV7e] at h7 ⊢
    rw [hV9e] at h9 ⊢
    exact rpair_same u A7 A9 _ C7 C9 w9 rfl h7 h9)
  clear hto' hn8 hc8 hV9 hc9 hVS hV7e hV9e x0 x1 x2 x3
  go_wp2_with (first
    | ((with_reducible refine wpList_isOp (.alloc 26) rfl ?_); refine wpList_making _ wz9 rfl 26 rfl (pcC pn0 (.slice none 0 0)) Q (zero_pc _) (by exact HV9.out.sz) (by exact HV9.out.al) ?_)
    | ((with_reducible refine wpList_isOp (.store 26 (.tmp 21) (.tmp 74)) rfl ?_); refine wpList_storing _ w9 rfl 26 (.tmp 21) (.tmp 74) rfl (.agg (pcC u V2)) ⟨Q, 0, none⟩ rfl rfl (by exact HV9.out.st) ?_)
    | ((with_reducible refine wpList_isOp (.load 26 (.tmp 19)) rfl ?_); refine wpList_loading _ rfl 26 (.tmp 19) rfl (.agg (pcC u V)) ⟨P, 0, none⟩ rfl (by exact HLP.out) ?_)
    | ((with_reducible refine wpList_isOp (.load 26 (.tmp 21)) rfl ?_); refine wpList_loading _ rfl 26 (.tmp 21) rfl (.agg (pcC u V2)) ⟨Q, 0, none⟩ rfl (by exact HLQ.out) ?_)
    | fail)
  refine HPR.out.mono ?_
  rintro e w10 ⟨rfl, hc10⟩
  have HX10 := Lib.hid ((hc10.block F (blk_lt HX9.out) (fun f => f)).trans HX9.out)
  have HC10 := Lib.hid (HC9.out.trans hc10)
  have HGR := Lib.hid (fun (w' : World) (k : Ch (fun _ => False) w10 w') => (PcX.gr (pc_x HX10.out) k).all)
  have HDR := Lib.hid ((Ch.refl (fun _ => False) w10).drew)
  have HPB := Lib.hid (show nb ≤ 140737488351232 by rw [HNB.out]; exact HPL.out)
  have HMA := Lib.hid (fun w' => show Calls Tryz.prog 18 #[.agg (pcC p (.slice A nb C))] w' (Ans (.bool (mayP p)) w') by rw [HNB.out]; exact rgMay_any p A C w' HPL.out)
  have HMB := Lib.hid (fun w' => show Calls Tryz.prog 19 #[.agg (pcC p (.slice A nb C))] w' (Ans (.bool (mayP p)) w') by rw [HNB.out]; exact r11may_any p A C w' HPL.out)
  obtain ⟨y0, y1, y2, y3, y4, y5, y6⟩ := pc_x HX10.out
  clear hc10
  obtain ⟨mp, hmp⟩ : ∃ mp, mp = mayP p := ⟨_, rfl⟩
  rw [← hmp] at HMA HMB
  clear hmp
  go_wp2_with fail
  go_region_held3 (fun w' => w'.cell? ⟨F, 0, none⟩ = some (.int .i64 p.seq) ∧ w'.cell? ⟨F, 1, none⟩ = some (.int .i64 p.ep) ∧ w'.cell? ⟨F, 2, none⟩ = some (.int .i64 p.fr) ∧ w'.cell? ⟨F, 3, none⟩ = some (.int .i64 p.ch) ∧ w'.cell? ⟨F, 4, none⟩ = some (.int .i64 p.ix) ∧ w'.cell? ⟨F, 5, none⟩ = some (.int .i64 p.ofn) ∧ w'.cell? ⟨F, 6, none⟩ = some (.slice A nb C)) (first | exact kb | exact ka | go_keep)
    (first
      | (go_at_call 18; refine (HMA.out _).mono ?_; rintro e w11 ⟨rfl, hc11⟩; have ka := HGR.out _ (HDR.out.trans hc11))
      | (go_at_call 19; refine (HMB.out _).mono ?_; rintro e w12 ⟨rfl, hc12⟩; have kb := HGR.out _ ((HDR.out.trans hc11).trans hc12)))
  go_wp2
  go_ret
  exact ⟨rfl, ((((HC1.out.trans HC10.out).trans HDR.out).trans hc11).trans hc12)⟩
#print axioms ringTells_of
end Go.Proofs.YteleknojohnlbaaGreat
