/-
  What SnapStripes needs besides.
-/
import Derived.Test.YtlbdopcchoklhaaGreatMh1
import Derived.Test.YtlbdopcchoklhaaGreatMh42
import Derived.Test.YtlbdopcchoklhaaGreatMh32
import Derived.Deep.Slices
import Derived.Deep.Fields
import Derived.ChangeSame
import Derived.Test.YtlbdopcchoklhaaGreatMh43
import Derived.Test.YtlbdopcchoklhaaGreatMh3
import Derived.Test.YtlbdopcchoklhaaGreatMh8
import Derived.Test.YtlbdopcchoklhaaGreatMh9
import Derived.Test.YtlbdopcchoklhaaGreatMh10
import Derived.Test.YtlbdopcchoklhaaGreatMh12
import Derived.Test.YtlbdopcchoklhaaGreatMh13
import Derived.Test.YtlbdopcchoklhaaGreatMh15
import Derived.Test.YtlbdopcchoklhaaGreatMh16
import Derived.Test.YtlbdopcchoklhaaGreatMh17
import Derived.Test.YtlbdopcchoklhaaGreatMh18
import Derived.Test.YtlbdopcchoklhaaGreatMh19
import Derived.Test.YtlbdopcchoklhaaGreatMh30
import Derived.Test.YtlbdopcchoklhaaGreatMh38
import Derived.ProofKit
import Derived.OpenShut
import Derived.SizedLaws
import Derived.Carry
import Derived.Deep.MidRow
import Derived.Laws.ResultCell
import Derived.StillTailTactics
import Derived.Test.YtlbdopcchoklhaaGreatRows
import Derived.WalkKit
import Derived.WalkSpells
import Derived.WalkLawsBesides
import Derived.Lib.Hide
import Derived.Deep.AppendLies
import Derived.Maps.AppendAt
import Derived.Deep.DeepCutAuto
import Derived.Deep.RegionLaw
namespace Go.Proofs.YtlbdopcchoklhaaGreat
open Go.ChangeShapes Go.WideShapes Go.ChangeAt Go.RowKit Go.Deep
set_option linter.unusedVariables false
set_option maxRecDepth 100000

theorem b8 {a : Int} (h : (Lit.int .u8 a).wf = true) : 0 ≤ a ∧ a < 256 := by have := bounds_u8 h; omega
section
variable {H : Type} {enc : TypeId × Value → H} {P : Program}
end

theorem addr_none {w : World} {a : Addr} {v : Value} (h : w.cell? (a.add 0) = some v) : ∃ b o, a = ⟨b, o, none⟩ := by
  obtain ⟨b, o, sp⟩ := a
  have : sp = none := by simpa [Addr.add] using World.cell?_spot h
  exact ⟨b, o, by rw [this]⟩
end Go.Proofs.YtlbdopcchoklhaaGreat

namespace Go.Proofs.YtlbdopcchoklhaaGreat
open Go.ChangeShapes Go.WideShapes Go.ChangeAt Go.RowKit Go.Deep
set_option linter.unusedVariables false
set_option maxRecDepth 100000

theorem cells5 : Tryz.prog.cellsOf 5 = 1 := by kernel_rfl
end Go.Proofs.YtlbdopcchoklhaaGreat

namespace Go.Proofs.YtlbdopcchoklhaaGreat
open Go.RowKit
set_option linter.unusedVariables false
set_option maxRecDepth 100000

section
variable {P : Program} {ops : Array Oper} {rest : List Oper} {o : Oper} {a : Act} {Q : Exit → Act → World → Prop}
theorem step_making {w : World} {K : Act → World → Prop} {E : Prop} (w' : World) (hgd : o.guard = none) (t : TypeId) (ho : o.op = .alloc t) (cs : Array Value) (H : Nat) (hz : (zeroValue t).run P w = .ok (.agg cs) w) (hH : w.heap.size = H) (hw : w.alloc (.cells cs t) = w')
    (hK : K (a.put o.dst (.pointer (some ⟨H, 0, none⟩))) w') : if Region.wanted o (yielded ops a.tmps) = true then Oper.wp P o a w K Q else E := by
  subst hH hw
  have hwt : Region.wanted o (yielded ops a.tmps) = true := by simp [Region.wanted, hgd]
  rw [if_pos hwt]
  unfold Oper.wp execOp
  simp only [ho, Sem.run_bind, Instr.alloc, hz, newVar, newRow, run_newObj_alloc, Sem.run_pure, Result.andThen_ok, Value.cells]
  exact hK
end
end Go.Proofs.YtlbdopcchoklhaaGreat

namespace Go.Proofs.YtlbdopcchoklhaaGreat
open Go.RowKit
set_option linter.unusedVariables false
set_option maxRecDepth 100000
set_option linter.unusedSimpArgs false

theorem w12_any (x : Int) (w : World) : Calls Tryz.prog 39 #[.int .i64 x] w fun e w' => e = .returned (.bool (decide (0 ≤ x ∧ x ≤ 4294967295))) ∧ w = w' := by
  by_cases h1 : 0 ≤ x
  · by_cases h2 : x ≤ 4294967295
    · rw [decide_eq_true (show 0 ≤ x ∧ x ≤ 4294967295 from ⟨h1, h2⟩)]
      go_enter Tryz.func39, Tryz.ntmps39
      go_wp2
      go_ret
      exact ⟨rfl, rfl⟩
    · rw [decide_eq_false (show ¬ (0 ≤ x ∧ x ≤ 4294967295) by omega)]
      go_enter Tryz.func39, Tryz.ntmps39
      go_wp2
      go_ret
      exact ⟨rfl, rfl⟩
  · rw [decide_eq_false (show ¬ (0 ≤ x ∧ x ≤ 4294967295) by omega)]
    go_enter Tryz.func39, Tryz.ntmps39
    go_wp2
    go_ret
    exact ⟨rfl, rfl⟩
set_option maxHeartbeats 1600000 in
theorem rfirst_no (g : Ge) (a s : Int) (w : World) (h : frsB g a s = false) : Calls Tryz.prog 12 #[.agg (geC g), .int .i64 a, .int .i64 s] w (Ans (.tuple #[.int .i64 0, .int .i64 1]) w) := by
  obtain ⟨w1, H, hR⟩ := geR w g
  have HR := Lib.hid hR
  have HM := Lib.hid (rgmay_any g w1)
  rcases frsB_no h with hm | ⟨hm, hc⟩
  · obtain ⟨x0, x1, x2, x3⟩ := hR.x
    rw [hm] at HM
    clear hR h hm
    go_enter Tryz.func12, Tryz.ntmps12
    go_wp2_with (first | ((with_reducible refine wpList_isOp (.box 23 (.tmp 0)) rfl ?_); refine wpList_boxing _ w1 rfl 23 (.tmp 0) rfl (geC g) H rfl (by exact HR.out.sz) (by exact HR.out.al) ?_) | fail)
    refine HM.out.mono ?_
    rintro e w2 ⟨rfl, hc2⟩
    have HC := Lib.hid (HR.out.ch.trans hc2)
    clear hc2
    go_wp2
    go_ret2
    exact ⟨rfl, HC.out⟩
  · rw [hm] at HM
    have HX := Lib.hid hR.x
    clear hR h hm
    go_enter Tryz.func12, Tryz.ntmps12
    obtain ⟨x0, x1, x2, x3⟩ := HX.out
    go_wp2_with (first | ((with_reducible refine wpList_isOp (.box 23 (.tmp 0)) rfl ?_); refine wpList_boxing _ w1 rfl 23 (.tmp 0) rfl (geC g) H rfl (by exact HR.out.sz) (by exact HR.out.al) ?_) | fail)
    refine HM.out.mono ?_
    rintro e w2 ⟨rfl, hc2⟩
    have HC := Lib.hid (HR.out.ch.trans hc2)
    clear x0 x1 x2 x3
    obtain ⟨x0, x1, x2, x3⟩ := HX.out.gr hc2
    clear hc2
    rcases hc with hc | ⟨h0, hc | ⟨h1, hc | ⟨h2, hc⟩⟩⟩
    all_goals (
      go_wp2
      go_ret2
      exact ⟨rfl, HC.out⟩)
theorem frs_wrap {n : Gn} {a s : Nat} (hn : n.Ok) (ha : a ≤ 1) (hs : s < n.S) : wrap64 (wrap64 (4 + wrap64 (2 * n.ge.wal)) + wrap64 (wrap64 (wrap64 ((a : Int) * n.ge.st) + (s : Int)) * wrap64 (n.ge.k + n.ge.m))) = (frsN n a s : Int) := by
  show wrap64 (wrap64 (4 + wrap64 (2 * (n.W : Int))) + wrap64 (wrap64 (wrap64 ((a : Int) * (n.S : Int)) + (s : Int)) * wrap64 ((n.K : Int) + (n.M : Int)))) = _
  have w2 := hn.w2
  have s2 := hn.s2
  have k2 := hn.k2
  have m2 := hn.m2
  have h1 : a * n.S ≤ 32 := Nat.le_trans (Nat.mul_le_mul ha s2) (by omega)
  have h2 : (a * n.S + s) * n.q ≤ 64 * 24 := Nat.mul_le_mul (by omega) (by unfold Gn.q; omega)
  rw [← Int.natCast_mul a n.S, IntWalk.wrap64_in (2 * (n.W : Int)) ⟨by omega, by omega⟩, IntWalk.wrap64_in (4 + 2 * (n.W : Int)) ⟨by omega, by omega⟩, IntWalk.wrap64_in ((a * n.S : Nat) : Int) ⟨by omega, by omega⟩, IntWalk.wrap64_in (((a * n.S : Nat) : Int) + (s : Int)) ⟨by omega, by omega⟩, IntWalk.wrap64_in ((n.K : Int) + (n.M : Int)) ⟨by omega, by omega⟩]
  have e : (((a * n.S : Nat) : Int) + (s : Int)) * ((n.K : Int) + (n.M : Int)) = (((a * n.S + s) * n.q : Nat) : Int) := by
    unfold Gn.q
    rw [Int.natCast_mul (a * n.S + s), Int.natCast_add (a * n.S), Int.natCast_add n.K]
  rw [e, IntWalk.wrap64_in (((a * n.S + s) * n.q : Nat) : Int) ⟨by omega, by omega⟩, IntWalk.wrap64_in (4 + 2 * (n.W : Int) + (((a * n.S + s) * n.q : Nat) : Int)) ⟨by omega, by omega⟩]
  unfold frsN Gn.fs
  omega
set_option maxHeartbeats 1600000 in
theorem rfirst_yes (n : Gn) (a s : Nat) (w : World) (hn : n.Ok) (ha : a ≤ 1) (hs : s < n.S) : Calls Tryz.prog 12 #[.agg (geC n.ge), .int .i64 (a : Int), .int .i64 (s : Int)] w (Ans (.tuple #[.int .i64 (frsN n a s : Int), .int .i64 0]) w) := by
  obtain ⟨w1, H, hR⟩ := geR w n.ge
  have HR := Lib.hid hR
  have HX := Lib.hid hR.x
  have HM := Lib.hid (rgmay_any n.ge w1)
  rw [ok_may hn] at HM
  have HF := Lib.hid (frsN_lt hn ha hs (i := 0) (by have := hn.q1; omega))
  have HT := Lib.hid hn.tot2
  have h1 : (0 : Int) ≤ (a : Int) := Int.natCast_nonneg _
  have h2 : (a : Int) ≤ 1 := by omega
  have h3 : (0 : Int) ≤ (s : Int) := Int.natCast_nonneg _
  have h4 : (s : Int) < n.ge.st := by show (s : Int) < (n.S : Int); omega
  obtain ⟨x0, x1, x2, x3⟩ := HX.out
  have HN := Lib.hid hn
  have HA := Lib.hid (And.intro ha hs)
  clear hR ha hs hn
  go_enter Tryz.func12, Tryz.ntmps12
  go_wp2_with (first | ((with_reducible refine wpList_isOp (.box 23 (.tmp 0)) rfl ?_); refine wpList_boxing _ w1 rfl 23 (.tmp 0) rfl (geC n.ge) H rfl (by exact HR.out.sz) (by exact HR.out.al) ?_) | fail)
  refine HM.out.mono ?_
  rintro e w2 ⟨rfl, hc2⟩
  have HC := Lib.hid (HR.out.ch.trans hc2)
  clear x0 x1 x2 x3
  obtain ⟨x0, x1, x2, x3⟩ := HX.out.gr hc2
  clear hc2
  go_wp2
  go_ret2
  exact ⟨by show Ending.returned (.tuple #[.int .i64 (wrap64 (wrap64 (4 + wrap64 (2 * n.ge.wal)) + wrap64 (wrap64 (wrap64 ((a : Int) * n.ge.st) + (s : Int)) * wrap64 (n.ge.k + n.ge.m)))), .int .i64 0]) = _; rw [frs_wrap HN.out HA.out.1 HA.out.2], HC.out⟩
end Go.Proofs.YtlbdopcchoklhaaGreat

namespace Go.Proofs.YtlbdopcchoklhaaGreat
open Go.RowKit
set_option linter.unusedVariables false
set_option maxRecDepth 100000

set_option maxHeartbeats 800000 in
set_option maxRecDepth 100000 in
theorem brnum_any (A : Option Addr) (n C : Nat) (z : Nat → Nat) (w : World) (h : RowV w (.slice A n C) n z) (hn : n ≤ 4) : Calls Tryz.prog 81 #[.slice A n C] w fun e w' => e = .returned (.int .i64 (nv z 0 n : Int)) ∧ w = w' := by
  have HV := Lib.hid h
  have HB := Lib.hid h.bytes
  have HPL := Lib.hid (fun k => @pk_le k)
  clear h
  go_enter Tryz.func81, Tryz.ntmps81
  go_wp2
  go_loop [3, 4, 5] (fun s p i => ∃ k : Nat, k ≤ n ∧ i = .int .i64 k ∧ s = .int .i64 (nv z 0 k : Int) ∧ p = .int .i64 (pk k : Int)) (fun _ _ i => n - (intOf i).toNat)
  case atStart => exact ⟨0, Nat.zero_le _, rfl, rfl, rfl⟩
  case round =>
    obtain ⟨k, hk, rfl, rfl, rfl⟩ := hrel
    by_cases hlt : k < n
    · have tk : decide (k < n) = true := by simp; omega
      obtain ⟨b, o, rfl, hc⟩ := HV.out.at (by omega)
      have c1 := hc k (by omega)
      have hx : z k < 256 := HB.out k (by omega)
      have hp := HPL.out (k := k + 1) (by omega)
      rw [pk_succ] at hp
      have hlt2 := nv_lt (z := z) (a := 0) k (fun i hi => by rw [Nat.zero_add]; exact HB.out i (by omega))
      have hxp : z k * pk k ≤ 255 * pk k := Nat.mul_le_mul_right _ (by omega)
      have HS := Lib.hid (show (nv z 0 k : Int) + (z k : Int) * (pk k : Int) = (nv z 0 (k + 1) : Int) by
        show _ = ((nv z 0 k + z (0 + k) * pk k : Nat) : Int)
        rw [Nat.zero_add, Int.natCast_add, Int.natCast_mul])
      have HP := Lib.hid (pk_succ k)
      have i1 : (0 : Int) ≤ (k : Int) := Int.natCast_nonneg _
      have i2 : (k : Int) < (n : Int) := by omega
      have hpk : pk k * 256 ≤ 4294967296 := hp
      have hS2 : nv z 0 k ≤ 4294967296 := by omega
      clear hc hp hlt2
      go_wp2
      go_round
      case rel => exact ⟨k + 1, by omega, by go_num, int_eq HS.out, by rw [HP.out]; go_num⟩
      case measure => simp [intOf]; omega
    · obtain rfl : k = n := by omega
      have tk : decide (k < k) = false := by simp
      go_wp2
      go_ret
      exact ⟨rfl, rfl⟩
end Go.Proofs.YtlbdopcchoklhaaGreat

namespace Go.Proofs.YtlbdopcchoklhaaGreat
open Go.RowKit
set_option linter.unusedVariables false
set_option maxRecDepth 100000

theorem readB_len (V : Value) (z : Nat → Nat) : (readB V z).len = rdLen z := rfl
end Go.Proofs.YtlbdopcchoklhaaGreat

namespace Go.Proofs.YtlbdopcchoklhaaGreat
open Go.RowKit
set_option linter.unusedVariables false
set_option maxRecDepth 100000

theorem opensB_over {z : Nat → Nat} (hz : Bytes 256 z) (h : ¬ blkLong z ≤ 228) : opensB 256 z = false := by
  rw [opensB_at]
  have : eqB 256 256 (sectZ (readB undef z)) z = false := decide_eq_false fun q => by
    have e0 := q.2 20 (by omega)
    have e1 := q.2 21 (by omega)
    have l : (readB undef z).len = 228 := by rw [readB_len]; unfold rdLen; rw [if_neg h]
    rw [sectZ_front (by omega)] at e0 e1
    have s0 := secZ_len (b := readB undef z) 0 (by omega)
    have s1 := secZ_len (b := readB undef z) 1 (by omega)
    rw [l] at s0 s1
    rw [show 20 + 0 = 20 from rfl, e0] at s0
    rw [show 20 + 1 = 21 from rfl, e1] at s1
    have b0 : Crc.byteOf 228 0 = 228 := by decide
    have b1 : Crc.byteOf 228 1 = 0 := by decide
    rw [b0] at s0
    rw [b1] at s1
    apply h
    unfold blkLong
    omega
  rw [this, Bool.and_false]
set_option maxHeartbeats 1600000 in
set_option maxRecDepth 100000 in
theorem ropen_long (A : Option Addr) (n C : Nat) (z : Nat → Nat) (w : World) (hn : n ≤ 140737488351232) (h : n ≠ 256) : Calls Tryz.prog 44 #[.slice A n C] w (OpenPost n z w) := by
  obtain ⟨w1, H, hZ⟩ := zeR w
  obtain ⟨w2, h2⟩ := stR (b := bk0) hZ.cx bk0_V
  have HP := Lib.hid (openPost_no (w := w) (w' := w2) (opensB_long z h) (openE_long z h) (hZ.ch.over h2.ch (by rw [hZ.sz]; exact Nat.le_refl _)))
  have HZ := Lib.hid hZ
  have H2 := Lib.hid h2
  have t1 : ((n : Int) != 256) = true := by simp; omega
  clear hZ h2 h
  go_enter Tryz.func44, Tryz.ntmps44
  go_wp2_with (first
    | ((with_reducible refine wpList_isOp (.alloc 71) rfl ?_); refine wpList_making _ w1 rfl 71 rfl (bkC bk0) H (zero_bk _) (by exact HZ.out.sz) (by exact HZ.out.al) ?_)
    | ((with_reducible refine wpList_isOp (.store 71 (.tmp 2) (.tmp 12)) rfl ?_); refine wpList_storing _ w2 rfl 71 (.tmp 2) (.tmp 12) rfl (.agg (bkC bk0)) ⟨H, 0, none⟩ rfl rfl (by exact H2.out.st) ?_))
  exact bodyPost_ret (v := .tuple #[.agg (bkC bk0), .int .i64 1]) (results_bk Tryz.results44 _ _ H bk0 rfl H2.out.cx) rfl HP.out
theorem eqB_symm (n : Nat) (z y : Nat → Nat) : eqB n n z y = eqB n n y z := by
  unfold eqB
  rw [decide_eq_decide]
  exact ⟨fun h => ⟨rfl, fun c hc => (h.2 c hc).symm⟩, fun h => ⟨rfl, fun c hc => (h.2 c hc).symm⟩⟩
theorem opensB_seal {z : Nat → Nat} {r : Bk} (h1 : mayB (readB undef z) = mayB r) (h2 : sectZ (readB undef z) = sectZ r) : opensB 256 z = (decide (sealE r = 0) && eqB 256 (sealN r) z (sectZ r)) := by
  rw [opensB_at, h1, h2, sealE_may]
  by_cases h : sealE r = 0
  · rw [decide_eq_true h, Bool.true_and, Bool.true_and]
    have hm : mayB r = true := by rw [sealE_may]; exact decide_eq_true h
    have hN : sealN r = 256 := by unfold sealN; rw [hm]; rfl
    rw [hN, eqB_symm]
  · rw [decide_eq_false h, Bool.false_and, Bool.false_and]
theorem built_bk (k v a e s : Int) (w : World) : (Instr.build 71 #[(0, .int .i64 k), (1, .int .i64 v), (2, .int .i64 a), (3, .int .i64 e), (4, .int .i64 s)]).run Tryz.prog w = .ok (.agg (bkC ⟨k, v, a, e, s, .slice none 0 0, 0, fun _ => 0⟩)) w := run_build w _ _ _ (by kernel_rfl)
set_option maxHeartbeats 3200000 in
set_option maxRecDepth 100000 in
theorem ropen_at (A : Option Addr) (C : Nat) (z : Nat → Nat) (w : World) (h : RowV w (.slice A 256 C) 256 z) : Calls Tryz.prog 44 #[.slice A 256 C] w (OpenPost 256 z w) := by
  obtain ⟨w1, H, hZ⟩ := zeR w
  have HZ := Lib.hid hZ
  have HV1 := Lib.hid (h.gr hZ.ch)
  have HBY := Lib.hid h.bytes
  have t1 : ((256 : Int) != 256) = false := by simp
  obtain ⟨b, o, rfl, _⟩ := h.at (by omega)
  have hCb : 256 ≤ C := by obtain ⟨_, _, e, h2, _⟩ := h; injection e with _ _ e; rw [e]; exact h2.2
  have k20 : ¬ C = 20 := by omega
  have k4 : ¬ C = 4 := by omega
  have k8 : ¬ C = 8 := by omega
  have k12 : ¬ C = 12 := by omega
  have k16 : ¬ C = 16 := by omega
  have k24 : ¬ C = 24 := by omega
  have HS2 := Lib.hid (show RowV w1 (.slice (some ⟨b, o + 20, none⟩) 2 (C - 20)) 2 (fun i => z (20 + i)) from row_front (row_tail HV1.out (show 20 ≤ 256 by omega)) (by omega))
  have HN2 := Lib.hid (show nv (fun i => z (20 + i)) 0 2 = blkLong z from nv_2 (fun i => z (20 + i)) 0)
  have hXb : blkLong z ≤ 65791 := by
    have h0 := HV1.out.bytes 20 (by omega)
    have h1 := HV1.out.bytes 21 (by omega)
    unfold blkLong
    omega
  clear hZ h
  go_enter Tryz.func44, Tryz.ntmps44
  go_wp2_with ((with_reducible refine wpList_isOp (.alloc 71) rfl ?_); refine wpList_making _ w1 rfl 71 rfl (bkC bk0) H (zero_bk _) (by exact HZ.out.sz) (by exact HZ.out.al) ?_)
  refine (brnum_any _ 2 _ _ _ HS2.out (by omega)).mono ?_
  rintro e w2 ⟨rfl, rfl⟩
  rw [HN2.out]
  by_cases hq : blkLong z ≤ 228
  case neg =>
    obtain ⟨w2, h2⟩ := stR (b := bk0) HZ.out.cx bk0_V
    have hno := opensB_over HBY.out hq
    have HP := Lib.hid (openPost_no (x := 7) (w := w) (w' := w2) hno (by rw [openE_at, hno]; rfl) (HZ.out.ch.over h2.ch (by rw [HZ.out.sz]; exact Nat.le_refl _)))
    have H2 := Lib.hid h2
    obtain ⟨X, hX⟩ : ∃ X, X = blkLong z := ⟨_, rfl⟩
    rw [← hX] at hXb hq ⊢
    have t2 : decide ((228 : Int) < (X : Int)) = true := by simp; omega
    clear hX hno h2 hq
    go_wp2_with ((with_reducible refine wpList_isOp (.store 71 (.tmp 2) (.tmp 18)) rfl ?_); refine wpList_storing _ w2 rfl 71 (.tmp 2) (.tmp 18) rfl (.agg (bkC bk0)) ⟨H, 0, none⟩ rfl rfl (by exact H2.out.st) ?_)
    exact bodyPost_ret (v := .tuple #[.agg (bkC bk0), .int .i64 7]) (results_bk Tryz.results44 _ _ H bk0 rfl H2.out.cx) rfl HP.out
  have HRL := Lib.hid (show blkLong z = rdLen z by unfold rdLen; rw [if_pos hq])
  have HR4 := Lib.hid (show ∀ (w' : World) (a : Nat), a + 4 ≤ 256 → RowV w' (.slice (some ⟨b, o, none⟩) 256 C) 256 z → Calls Tryz.prog 81 #[.slice (some ⟨b, o + a, none⟩) 4 (C - a)] w' fun e w'' => e = .returned (.int .i64 (numZ z a : Int)) ∧ w' = w'' from fun w' a ha hr => by
    have := brnum_any _ 4 _ _ w' (row_front (row_tail hr (show a ≤ 256 by omega)) (show 4 ≤ 256 - a by omega)) (Nat.le_refl _)
    have e4 := nv_4 (fun i => z (a + i)) 0
    have e5 : numZ (fun i => z (a + i)) 0 = numZ z a := rfl
    rw [e4, e5] at this
    exact this)
  obtain ⟨X, hX⟩ : ∃ X, X = blkLong z := ⟨_, rfl⟩
  rw [← hX] at hXb hq HRL ⊢
  have t2 : decide ((228 : Int) < (X : Int)) = false := by simp; omega
  have HX := Lib.hid hX
  clear hX
  obtain ⟨wd, hwd⟩ : ∃ wd, wd = w1.drew := ⟨_, rfl⟩
  have hcd : Ch (fun _ => False) w1 wd := by rw [hwd]; exact (Ch.refl _ w1).drew
  obtain ⟨we, H3, hZ3⟩ := zeR wd
  have HVD := Lib.hid (HV1.out.gr hcd)
  have HVE := Lib.hid (HV1.out.gr (hcd.trans hZ3.ch))
  have hz2 : z 2 < 256 := HBY.out 2 (by omega)
  have ez2 : IntKind.i64.wrap (z 2 : Int) = (z 2 : Int) := by rw [IntKind.wrap_i64]; omega
  have m8 : (8 : Int) ≤ (C : Int) := by omega
  have m12 : (12 : Int) ≤ (C : Int) := by omega
  have m16 : (16 : Int) ≤ (C : Int) := by omega
  have m20 : (20 : Int) ≤ (C : Int) := by omega
  obtain ⟨r0, hr0⟩ : ∃ r0 : Bk, r0 = ⟨z 2, numZ z 4, numZ z 8, numZ z 12, numZ z 16, .slice none 0 0, 0, fun _ => 0⟩ := ⟨_, rfl⟩
  obtain ⟨wf, hf⟩ := stR (b := r0) hZ3.cx (by rw [hr0]; exact ⟨_, _, _, rfl⟩)
  have hcf : Ch (fun _ => False) w1 wf := (hcd.trans hZ3.ch).over hf.ch (by
    rw [← hZ3.sz]
    exact hcd.size)
  have HVF := Lib.hid (HV1.out.gr hcf)
  have HCUT : Hid (wf.heap[H3]? = some (.cells (bkC r0) 71 (0, 0)) ∧ Ch (fun _ => False) w1 wf ∧ H < H3) := Lib.hid ⟨hf.cx, hcf, by
    have h6 := blk_lt (o := .cells (bkC bk0) 71 (0, 0)) HZ.out.cx
    have h7 := hcd.size
    rw [← hZ3.sz]
    omega⟩
  have HF := Lib.hid hf
  have HZ3 := Lib.hid hZ3
  have HWD := Lib.hid hwd
  have HRR := Lib.hid hr0
  have hbd := built_bk (z 2) (numZ z 4) (numZ z 8) (numZ z 12) (numZ z 16)
  rw [← hr0] at hbd
  clear hwd hcd hZ3 hf hcf hr0
  go_upto_region 6 with fail
  go_cut [5] (fun v wx => v = .pointer (some ⟨H3, 0, none⟩) ∧ Hid (wx.heap[H3]? = some (.cells (bkC r0) 71 (0, 0)) ∧ Ch (fun _ => False) w1 wx ∧ H < H3))
  case first =>
    refine wp_region_held (S := fun W' => RowV W' (.slice (some ⟨b, o, none⟩) 256 C) 256 z) (by kernel_rfl) ?_
    change wpAnyH _ _ _ _ _ _ _ _ (World.drew _)
    rw [← HWD.out]
    have HS : (fun W' : World => RowV W' (.slice (some ⟨b, o, none⟩) 256 C) 256 z) wd := HVD.out
    refine wpAnyH_take (i := 0) (oi := ⟨some 19, .move (.tmp 0), _, _, _, none⟩) (v := .slice (some ⟨b, o, none⟩) 256 C) rfl (by kernel_rfl) (by kernel_rfl) (by kernel_rfl) (fun _ _ _ h => h) (Or.inl ⟨by rfl, fun w' hS => ?_⟩) HS ?_
    · clear hS; go_simp
    simp only [Act.put, List.setIfInBounds_toArray, List.set_cons_zero, List.set_cons_succ]
    refine wpAnyH_take (i := 1) (oi := ⟨some 20, .indexAddr /-t-/24 (.tmp 19) (.const (.int .i64 2)), _, _, _, none⟩) (v := .pointer (some ⟨b, o + 2, none⟩)) rfl (by kernel_rfl) (by kernel_rfl) (by kernel_rfl) (fun _ _ _ h => h) (Or.inl ⟨by rfl, fun w' hS => ?_⟩) HS ?_
    · clear hS; go_simp
    simp only [Act.put, List.setIfInBounds_toArray, List.set_cons_zero, List.set_cons_succ]
    refine wpAnyH_take (i := 2) (oi := ⟨some 21, .load /-t-/5 (.tmp 20), _, _, _, none⟩) (v := .int .u8 (z 2 : Int)) rfl (by kernel_rfl) (by kernel_rfl) (by kernel_rfl) (fun _ _ _ h => h) (Or.inl ⟨by rfl, fun w' hS => ?_⟩) HS ?_
    · have cc : w'.cell? ⟨b, o + 2, none⟩ = some (.int .u8 (z 2 : Int)) := by
        obtain ⟨_, _, e, hc⟩ := RowV.at hS (by omega)
        injection e with e
        injection e with e1 e2
        subst e1 e2
        exact hc 2 (by omega)
      clear hS
      go_simp
    simp only [Act.put, List.setIfInBounds_toArray, List.set_cons_zero, List.set_cons_succ]
    refine wpAnyH_take (i := 3) (oi := ⟨some 22, .convert /-t-/5 /-t-/3 (.tmp 21), _, _, _, none⟩) (v := .int .i64 (z 2 : Int)) rfl (by kernel_rfl) (by kernel_rfl) (by kernel_rfl) (fun _ _ _ h => h) (Or.inl ⟨by rfl, fun w' hS => ?_⟩) HS ?_
    · clear hS; go_simp
    simp only [Act.put, List.setIfInBounds_toArray, List.set_cons_zero, List.set_cons_succ]
    refine wpAnyH_take (i := 4) (oi := ⟨some 23, .move (.tmp 0), _, _, _, none⟩) (v := .slice (some ⟨b, o, none⟩) 256 C) rfl (by kernel_rfl) (by kernel_rfl) (by kernel_rfl) (fun _ _ _ h => h) (Or.inl ⟨by rfl, fun w' hS => ?_⟩) HS ?_
    · clear hS; go_simp
    simp only [Act.put, List.setIfInBounds_toArray, List.set_cons_zero, List.set_cons_succ]
    refine wpAnyH_take (i := 5) (oi := ⟨some 24, .slice /-t-/24 (.tmp 23) (some (.const (.int .i64 4))) (some (.const (.int .i64 8))) none, _, _, _, none⟩) (v := .slice (some ⟨b, o + 4, none⟩) 4 (C - 4)) rfl (by kernel_rfl) (by kernel_rfl) (by kernel_rfl) (fun _ _ _ h => h) (Or.inl ⟨by rfl, fun w' hS => ?_⟩) HS ?_
    · clear hS; go_simp
    simp only [Act.put, List.setIfInBounds_toArray, List.set_cons_zero, List.set_cons_succ]
    refine wpAnyH_take (i := 7) (oi := ⟨some 26, .move (.tmp 0), _, _, _, none⟩) (v := .slice (some ⟨b, o, none⟩) 256 C) rfl (by kernel_rfl) (by kernel_rfl) (by kernel_rfl) (fun _ _ _ h => h) (Or.inl ⟨by rfl, fun w' hS => ?_⟩) HS ?_
    · clear hS; go_simp
    simp only [Act.put, List.setIfInBounds_toArray, List.set_cons_zero, List.set_cons_succ]
    refine wpAnyH_take (i := 8) (oi := ⟨some 27, .slice /-t-/24 (.tmp 26) (some (.const (.int .i64 8))) (some (.const (.int .i64 12))) none, _, _, _, none⟩) (v := .slice (some ⟨b, o + 8, none⟩) 4 (C - 8)) rfl (by kernel_rfl) (by kernel_rfl) (by kernel_rfl) (fun _ _ _ h => h) (Or.inl ⟨by rfl, fun w' hS => ?_⟩) HS ?_
    · clear hS; go_simp
    simp only [Act.put, List.setIfInBounds_toArray, List.set_cons_zero, List.set_cons_succ]
    refine wpAnyH_take (i := 10) (oi := ⟨some 29, .move (.tmp 0), _, _, _, none⟩) (v := .slice (some ⟨b, o, none⟩) 256 C) rfl (by kernel_rfl) (by kernel_rfl) (by kernel_rfl) (fun _ _ _ h => h) (Or.inl ⟨by rfl, fun w' hS => ?_⟩) HS ?_
    · clear hS; go_simp
    simp only [Act.put, List.setIfInBounds_toArray, List.set_cons_zero, List.set_cons_succ]
    refine wpAnyH_take (i := 11) (oi := ⟨some 30, .slice /-t-/24 (.tmp 29) (some (.const (.int .i64 12))) (some (.const (.int .i64 16))) none, _, _, _, none⟩) (v := .slice (some ⟨b, o + 12, none⟩) 4 (C - 12)) rfl (by kernel_rfl) (by kernel_rfl) (by kernel_rfl) (fun _ _ _ h => h) (Or.inl ⟨by rfl, fun w' hS => ?_⟩) HS ?_
    · clear hS; go_simp
    simp only [Act.put, List.setIfInBounds_toArray, List.set_cons_zero, List.set_cons_succ]
    refine wpAnyH_take (i := 13) (oi := ⟨some 32, .move (.tmp 0), _, _, _, none⟩) (v := .slice (some ⟨b, o, none⟩) 256 C) rfl (by kernel_rfl) (by kernel_rfl) (by kernel_rfl) (fun _ _ _ h => h) (Or.inl ⟨by rfl, fun w' hS => ?_⟩) HS ?_
    · clear hS; go_simp
    simp only [Act.put, List.setIfInBounds_toArray, List.set_cons_zero, List.set_cons_succ]
    refine wpAnyH_take (i := 14) (oi := ⟨some 33, .slice /-t-/24 (.tmp 32) (some (.const (.int .i64 16))) (some (.const (.int .i64 20))) none, _, _, _, none⟩) (v := .slice (some ⟨b, o + 16, none⟩) 4 (C - 16)) rfl (by kernel_rfl) (by kernel_rfl) (by kernel_rfl) (fun _ _ _ h => h) (Or.inl ⟨by rfl, fun w' hS => ?_⟩) HS ?_
    · clear hS; go_simp
    simp only [Act.put, List.setIfInBounds_toArray, List.set_cons_zero, List.set_cons_succ]
    refine wpAnyH_ready (rs := [6, 17]) (by kernel_rfl) (by simp) ?_
    refine AllReadyH.cons rfl (fun K hK => ?_) (AllReadyH.cons rfl (fun K hK => ?_) AllReadyH.nil)
    · go_simp
      refine (HR4.out wd 4 (by omega) HVD.out).mono ?_
      rintro e w' ⟨rfl, rfl⟩
      dsimp only
      refine hK.out _ _ HVD.out (fun _ => ?_)
      clear hK K
      refine wpAnyH_ready (rs := [9, 17]) (by kernel_rfl) (by simp) ?_
      refine AllReadyH.cons rfl (fun K hK => ?_) (AllReadyH.cons rfl (fun K hK => ?_) AllReadyH.nil)
      · go_simp
        refine (HR4.out wd 8 (by omega) HVD.out).mono ?_
        rintro e w' ⟨rfl, rfl⟩
        dsimp only
        refine hK.out _ _ HVD.out (fun _ => ?_)
        clear hK K
        refine wpAnyH_ready (rs := [12, 17]) (by kernel_rfl) (by simp) ?_
        refine AllReadyH.cons rfl (fun K hK => ?_) (AllReadyH.cons rfl (fun K hK => ?_) AllReadyH.nil)
        · go_simp
          refine (HR4.out wd 12 (by omega) HVD.out).mono ?_
          rintro e w' ⟨rfl, rfl⟩
          dsimp only
          refine hK.out _ _ HVD.out (fun _ => ?_)
          clear hK K
          refine wpAnyH_ready (rs := [15, 17]) (by kernel_rfl) (by simp) ?_
          refine AllReadyH.cons rfl (fun K hK => ?_) (AllReadyH.cons rfl (fun K hK => ?_) AllReadyH.nil)
          · go_simp
            refine (HR4.out wd 16 (by omega) HVD.out).mono ?_
            rintro e w' ⟨rfl, rfl⟩
            dsimp only
            refine hK.out _ _ HVD.out (fun _ => ?_)
            clear hK K
            refine wpAnyH_take (i := 16) (oi := ⟨some 35, .build 71 #[(0, .tmp 22), (1, .tmp 25), (2, .tmp 28), (3, .tmp 31), (4, .tmp 34)], _, _, _, none⟩) (v := .agg (bkC r0)) rfl (by kernel_rfl) (by kernel_rfl) (by kernel_rfl) (fun _ _ _ h => h) (Or.inl ⟨by rfl, fun w' hS => ?_⟩) HVD.out ?_
            · clear hS
              go_simp
              rw [HRR.out]
              rfl
            simp only [Act.put, List.setIfInBounds_toArray, List.set_cons_zero, List.set_cons_succ]
            refine wpAnyH_ready (rs := [17]) (by kernel_rfl) (by simp) ?_
            refine AllReadyH.cons rfl (fun K hK => ?_) AllReadyH.nil
            refine step_making (o := ⟨some 5, .alloc 71, _, _, _, none⟩) we rfl 71 rfl (bkC bk0) H3 (zero_bk _) (by exact HZ3.out.sz) (by exact HZ3.out.al) ?_
            refine hK.out _ _ HVE.out (fun _ => ?_)
            clear hK K
            simp only [Act.put, List.setIfInBounds_toArray, List.set_cons_zero, List.set_cons_succ]
            refine wpAnyH_ready (rs := [18]) (by kernel_rfl) (by simp) ?_
            refine AllReadyH.cons rfl (fun K hK => ?_) AllReadyH.nil
            refine step_storing (o := ⟨none, .store 71 (.tmp 5) (.tmp 35), _, _, _, none⟩) wf rfl 71 (.tmp 5) (.tmp 35) rfl (.agg (bkC r0)) ⟨H3, 0, none⟩ (by first | (simp [Act.eval]; done) | simp [Act.eval, Act.put]) (by first | (simp [Act.eval]; done) | simp [Act.eval, Act.put]) (by exact HF.out.st) ?_
            refine hK.out _ _ HVF.out (fun _ => ?_)
            clear hK K
            simp only [Act.put]
            refine wpAnyH_done (by kernel_rfl) ?_ _
            go_wp2_with fail
            go_meet
            exact ⟨rfl, HCUT⟩
          · refine step_making (o := ⟨some 5, .alloc 71, _, _, _, none⟩) we rfl 71 rfl (bkC bk0) H3 (zero_bk _) (by exact HZ3.out.sz) (by exact HZ3.out.al) ?_
            refine hK.out _ _ HVE.out (fun _ => ?_)
            clear hK K
            simp only [Act.put, List.setIfInBounds_toArray, List.set_cons_zero, List.set_cons_succ]
            refine wpAnyH_ready (rs := [15]) (by kernel_rfl) (by simp) ?_
            refine AllReadyH.cons rfl (fun K hK => ?_) AllReadyH.nil
            go_simp
            refine (HR4.out we 16 (by omega) HVE.out).mono ?_
            rintro e w' ⟨rfl, rfl⟩
            dsimp only
            refine hK.out _ _ HVE.out (fun _ => ?_)
            clear hK K
            refine wpAnyH_take (i := 16) (oi := ⟨some 35, .build 71 #[(0, .tmp 22), (1, .tmp 25), (2, .tmp 28), (3, .tmp 31), (4, .tmp 34)], _, _, _, none⟩) (v := .agg (bkC r0)) rfl (by kernel_rfl) (by kernel_rfl) (by kernel_rfl) (fun _ _ _ h => h) (Or.inl ⟨by rfl, fun w' hS => ?_⟩) HVE.out ?_
            · clear hS
              go_simp
              rw [HRR.out]
              rfl
            simp only [Act.put, List.setIfInBounds_toArray, List.set_cons_zero, List.set_cons_succ]
            refine wpAnyH_ready (rs := [18]) (by kernel_rfl) (by simp) ?_
            refine AllReadyH.cons rfl (fun K hK => ?_) AllReadyH.nil
            refine step_storing (o := ⟨none, .store 71 (.tmp 5) (.tmp 35), _, _, _, none⟩) wf rfl 71 (.tmp 5) (.tmp 35) rfl (.agg (bkC r0)) ⟨H3, 0, none⟩ (by first | (simp [Act.eval]; done) | simp [Act.eval, Act.put]) (by first | (simp [Act.eval]; done) | simp [Act.eval, Act.put]) (by exact HF.out.st) ?_
            refine hK.out _ _ HVF.out (fun _ => ?_)
            clear hK K
            simp only [Act.put]
            refine wpAnyH_done (by kernel_rfl) ?_ _
            go_wp2_with fail
            go_meet
            exact ⟨rfl, HCUT⟩
        · refine step_making (o := ⟨some 5, .alloc 71, _, _, _, none⟩) we rfl 71 rfl (bkC bk0) H3 (zero_bk _) (by exact HZ3.out.sz) (by exact HZ3.out.al) ?_
          refine hK.out _ _ HVE.out (fun _ => ?_)
          clear hK K
          simp only [Act.put, List.setIfInBounds_toArray, List.set_cons_zero, List.set_cons_succ]
          refine wpAnyH_ready (rs := [12]) (by kernel_rfl) (by simp) ?_
          refine AllReadyH.cons rfl (fun K hK => ?_) AllReadyH.nil
          go_simp
          refine (HR4.out we 12 (by omega) HVE.out).mono ?_
          rintro e w' ⟨rfl, rfl⟩
          dsimp only
          refine hK.out _ _ HVE.out (fun _ => ?_)
          clear hK K
          refine wpAnyH_ready (rs := [15]) (by kernel_rfl) (by simp) ?_
          refine AllReadyH.cons rfl (fun K hK => ?_) AllReadyH.nil
          go_simp
          refine (HR4.out we 16 (by omega) HVE.out).mono ?_
          rintro e w' ⟨rfl, rfl⟩
          dsimp only
          refine hK.out _ _ HVE.out (fun _ => ?_)
          clear hK K
          refine wpAnyH_take (i := 16) (oi := ⟨some 35, .build 71 #[(0, .tmp 22), (1, .tmp 25), (2, .tmp 28), (3, .tmp 31), (4, .tmp 34)], _, _, _, none⟩) (v := .agg (bkC r0)) rfl (by kernel_rfl) (by kernel_rfl) (by kernel_rfl) (fun _ _ _ h => h) (Or.inl ⟨by rfl, fun w' hS => ?_⟩) HVE.out ?_
          · clear hS
            go_simp
            rw [HRR.out]
            rfl
          simp only [Act.put, List.setIfInBounds_toArray, List.set_cons_zero, List.set_cons_succ]
          refine wpAnyH_ready (rs := [18]) (by kernel_rfl) (by simp) ?_
          refine AllReadyH.cons rfl (fun K hK => ?_) AllReadyH.nil
          refine step_storing (o := ⟨none, .store 71 (.tmp 5) (.tmp 35), _, _, _, none⟩) wf rfl 71 (.tmp 5) (.tmp 35) rfl (.agg (bkC r0)) ⟨H3, 0, none⟩ (by first | (simp [Act.eval]; done) | simp [Act.eval, Act.put]) (by first | (simp [Act.eval]; done) | simp [Act.eval, Act.put]) (by exact HF.out.st) ?_
          refine hK.out _ _ HVF.out (fun _ => ?_)
          clear hK K
          simp only [Act.put]
          refine wpAnyH_done (by kernel_rfl) ?_ _
          go_wp2_with fail
          go_meet
          exact ⟨rfl, HCUT⟩
      · refine step_making (o := ⟨some 5, .alloc 71, _, _, _, none⟩) we rfl 71 rfl (bkC bk0) H3 (zero_bk _) (by exact HZ3.out.sz) (by exact HZ3.out.al) ?_
        refine hK.out _ _ HVE.out (fun _ => ?_)
        clear hK K
        simp only [Act.put, List.setIfInBounds_toArray, List.set_cons_zero, List.set_cons_succ]
        refine wpAnyH_ready (rs := [9]) (by kernel_rfl) (by simp) ?_
        refine AllReadyH.cons rfl (fun K hK => ?_) AllReadyH.nil
        go_simp
        refine (HR4.out we 8 (by omega) HVE.out).mono ?_
        rintro e w' ⟨rfl, rfl⟩
        dsimp only
        refine hK.out _ _ HVE.out (fun _ => ?_)
        clear hK K
        refine wpAnyH_ready (rs := [12]) (by kernel_rfl) (by simp) ?_
        refine AllReadyH.cons rfl (fun K hK => ?_) AllReadyH.nil
        go_simp
        refine (HR4.out we 12 (by omega) HVE.out).mono ?_
        rintro e w' ⟨rfl, rfl⟩
        dsimp only
        refine hK.out _ _ HVE.out (fun _ => ?_)
        clear hK K
        refine wpAnyH_ready (rs := [15]) (by kernel_rfl) (by simp) ?_
        refine AllReadyH.cons rfl (fun K hK => ?_) AllReadyH.nil
        go_simp
        refine (HR4.out we 16 (by omega) HVE.out).mono ?_
        rintro e w' ⟨rfl, rfl⟩
        dsimp only
        refine hK.out _ _ HVE.out (fun _ => ?_)
        clear hK K
        refine wpAnyH_take (i := 16) (oi := ⟨some 35, .build 71 #[(0, .tmp 22), (1, .tmp 25), (2, .tmp 28), (3, .tmp 31), (4, .tmp 34)], _, _, _, none⟩) (v := .agg (bkC r0)) rfl (by kernel_rfl) (by kernel_rfl) (by kernel_rfl) (fun _ _ _ h => h) (Or.inl ⟨by rfl, fun w' hS => ?_⟩) HVE.out ?_
        · clear hS
          go_simp
          rw [HRR.out]
          rfl
        simp only [Act.put, List.setIfInBounds_toArray, List.set_cons_zero, List.set_cons_succ]
        refine wpAnyH_ready (rs := [18]) (by kernel_rfl) (by simp) ?_
        refine AllReadyH.cons rfl (fun K hK => ?_) AllReadyH.nil
        refine step_storing (o := ⟨none, .store 71 (.tmp 5) (.tmp 35), _, _, _, none⟩) wf rfl 71 (.tmp 5) (.tmp 35) rfl (.agg (bkC r0)) ⟨H3, 0, none⟩ (by first | (simp [Act.eval]; done) | simp [Act.eval, Act.put]) (by first | (simp [Act.eval]; done) | simp [Act.eval, Act.put]) (by exact HF.out.st) ?_
        refine hK.out _ _ HVF.out (fun _ => ?_)
        clear hK K
        simp only [Act.put]
        refine wpAnyH_done (by kernel_rfl) ?_ _
        go_wp2_with fail
        go_meet
        exact ⟨rfl, HCUT⟩
    · refine step_making (o := ⟨some 5, .alloc 71, _, _, _, none⟩) we rfl 71 rfl (bkC bk0) H3 (zero_bk _) (by exact HZ3.out.sz) (by exact HZ3.out.al) ?_
      refine hK.out _ _ HVE.out (fun _ => ?_)
      clear hK K
      simp only [Act.put, List.setIfInBounds_toArray, List.set_cons_zero, List.set_cons_succ]
      refine wpAnyH_ready (rs := [6]) (by kernel_rfl) (by simp) ?_
      refine AllReadyH.cons rfl (fun K hK => ?_) AllReadyH.nil
      go_simp
      refine (HR4.out we 4 (by omega) HVE.out).mono ?_
      rintro e w' ⟨rfl, rfl⟩
      dsimp only
      refine hK.out _ _ HVE.out (fun _ => ?_)
      clear hK K
      refine wpAnyH_ready (rs := [9]) (by kernel_rfl) (by simp) ?_
      refine AllReadyH.cons rfl (fun K hK => ?_) AllReadyH.nil
      go_simp
      refine (HR4.out we 8 (by omega) HVE.out).mono ?_
      rintro e w' ⟨rfl, rfl⟩
      dsimp only
      refine hK.out _ _ HVE.out (fun _ => ?_)
      clear hK K
      refine wpAnyH_ready (rs := [12]) (by kernel_rfl) (by simp) ?_
      refine AllReadyH.cons rfl (fun K hK => ?_) AllReadyH.nil
      go_simp
      refine (HR4.out we 12 (by omega) HVE.out).mono ?_
      rintro e w' ⟨rfl, rfl⟩
      dsimp only
      refine hK.out _ _ HVE.out (fun _ => ?_)
      clear hK K
      refine wpAnyH_ready (rs := [15]) (by kernel_rfl) (by simp) ?_
      refine AllReadyH.cons rfl (fun K hK => ?_) AllReadyH.nil
      go_simp
      refine (HR4.out we 16 (by omega) HVE.out).mono ?_
      rintro e w' ⟨rfl, rfl⟩
      dsimp only
      refine hK.out _ _ HVE.out (fun _ => ?_)
      clear hK K
      refine wpAnyH_take (i := 16) (oi := ⟨some 35, .build 71 #[(0, .tmp 22), (1, .tmp 25), (2, .tmp 28), (3, .tmp 31), (4, .tmp 34)], _, _, _, none⟩) (v := .agg (bkC r0)) rfl (by kernel_rfl) (by kernel_rfl) (by kernel_rfl) (fun _ _ _ h => h) (Or.inl ⟨by rfl, fun w' hS => ?_⟩) HVE.out ?_
      · clear hS
        go_simp
        rw [HRR.out]
        rfl
      simp only [Act.put, List.setIfInBounds_toArray, List.set_cons_zero, List.set_cons_succ]
      refine wpAnyH_ready (rs := [18]) (by kernel_rfl) (by simp) ?_
      refine AllReadyH.cons rfl (fun K hK => ?_) AllReadyH.nil
      refine step_storing (o := ⟨none, .store 71 (.tmp 5) (.tmp 35), _, _, _, none⟩) wf rfl 71 (.tmp 5) (.tmp 35) rfl (.agg (bkC r0)) ⟨H3, 0, none⟩ (by first | (simp [Act.eval]; done) | simp [Act.eval, Act.put]) (by first | (simp [Act.eval]; done) | simp [Act.eval, Act.put]) (by exact HF.out.st) ?_
      refine hK.out _ _ HVF.out (fun _ => ?_)
      clear hK K
      simp only [Act.put]
      refine wpAnyH_done (by kernel_rfl) ?_ _
      go_wp2_with fail
      go_meet
      exact ⟨rfl, HCUT⟩
  case rest =>
    obtain ⟨rfl, HSV⟩ := hcut
    obtain ⟨J, hJ⟩ : ∃ J, J = 24 + X := ⟨_, rfl⟩
    have e1 : IntKind.i64.wrap (24 + (X : Int)) = (J : Int) := by rw [IntKind.wrap_i64]; omega
    have j1 : (24 : Int) ≤ (J : Int) := by omega
    have j2 : (J : Int) ≤ (C : Int) := by omega
    have jX : J - 24 = X := by omega
    clear hJ
    have hVc := HV1.out.gr HSV.out.2.1
    have hBR : RowV wc (.slice (some ⟨b, o + 24, none⟩) X (C - 24)) X (bodyZ z) := row_front (row_tail hVc (show 24 ≤ 256 by omega)) (by omega)
    obtain ⟨v1, w3, hr3, ho3, hc3⟩ := app_copy hBR (by omega)
    obtain ⟨A3, C3, rfl⟩ := own_slice ho3
    have hx3 : w3.heap[H3]? = some (.cells (bkC r0) 71 (0, 0)) := (hc3.block H3 (blk_lt HSV.out.1) (fun f => f)).trans HSV.out.1
    obtain ⟨r, hr⟩ : ∃ r, r = readB (.slice A3 X C3) z := ⟨_, rfl⟩
    have hset : (bkC r0).setIfInBounds 5 (.slice A3 X C3) = bkC r := by rw [hr, HRR.out]; rfl
    have hrV : r.V = .slice A3 X C3 := by rw [hr]; rfl
    have hrL : r.len = X := by rw [hr, HRL.out]; rfl
    have f5 := blk_frozen (i := 5) hx3
    have c5 : w3.cell? ⟨H3, 5, none⟩ = some (.slice none 0 0) := by rw [blk_cell hx3, HRR.out]; rfl
    obtain ⟨w4, hw4⟩ : ∃ w4, w4 = w3.setCell ⟨H3, 5, none⟩ (.slice A3 X C3) := ⟨_, rfl⟩
    have hx4 : w4.heap[H3]? = some (.cells (bkC r) 71 (0, 0)) := by
      rw [hw4, ← hset]
      exact blk_set hx3 _
    have hH1 : H < w1.heap.size := blk_lt (o := .cells (bkC bk0) 71 (0, 0)) HZ.out.cx
    have hH3 : w1.heap.size ≤ H3 := by
      rw [← HZ3.out.sz, HWD.out]
      exact Nat.le_refl _
    have hc14 : Ch (fun _ => False) w1 w4 := by
      rw [hw4]
      exact (HSV.out.2.1.trans hc3).setCell (p := ⟨H3, 5, none⟩) (Or.inr hH3) _
    have ho4 : w4.ownsRow wc.heap.size /-t-/5 1 (.slice A3 X C3) X (bytesL X (bodyZ z)) := own_of ho3 (fun i hi => by
      rw [hw4]
      refine Below.heap_setCell w3 _ _ i (fun e => ?_)
      have e5 : i = H3 := e
      have h5 := (World.ownsRow.lt ho3 i hi).1
      have h6 := blk_lt HSV.out.1
      omega)
    have hr4 : BkIs w4 r := by
      have hrow := ownsRow_rowV ho4 (by omega) (fun c hc => HBY.out _ (by omega))
      rw [HRL.out] at hrow
      rw [hr, HRL.out]
      exact readB_is HBY.out hrow
    have HR3 := Lib.hid hr3
    have HC14 := Lib.hid hc14
    have HX4 := Lib.hid hx4
    have HL4 := Lib.hid (load_bk hx4)
    have HB4 := Lib.hid hr4
    have HV4 := Lib.hid (HV1.out.gr hc14)
    have HRV := Lib.hid (show r.V = .slice A3 r.len C3 by rw [hrL]; exact hrV)
    have HSE := Lib.hid (show mayB (readB undef z) = mayB r by rw [hr]; rfl)
    have HSZ := Lib.hid (show sectZ (readB undef z) = sectZ r by rw [hr]; rfl)
    have HRD := Lib.hid hr
    have HO4 := Lib.hid ho4
    have HW4 := Lib.hid hw4
    have HH := Lib.hid (And.intro hH1 hH3)
    have HWC := Lib.hid HSV.out.2.1.size
    clear hVc hBR hr3 ho3 hc3 hx3 hset hrV hrL hx4 hH1 hH3 hc14 ho4 hr4 hr HSV HCUT HF HVF HVD HVE HR4 hbd hw4
    go_wp2_with (first
      | (at_builtin; refine wpList_app_of _ rfl (.const (.slice none 0 0)) (.tmp 39) rfl rfl (.slice none 0 0) (.slice (some ⟨b, o + 24, none⟩) X (C - 24)) (.slice A3 X C3) w3 rfl (by simp [Act.eval]) HR3.out ?_)
      | ((with_reducible refine wpList_isOp (.load 71 (.tmp 5)) rfl ?_); rw [← HW4.out]; refine wpList_loading _ rfl 71 (.tmp 5) rfl (.agg (bkC r)) ⟨H3, 0, none⟩ rfl (by exact HL4.out) ?_))
    refine (rsealB_any r A3 C3 _ HRV.out HB4.out).mono ?_
    rintro e w5 ⟨A5, C5, rfl, ho5, hc5⟩
    have HC15 := Lib.hid (HC14.out.trans hc5)
    have HS5 := Lib.hid (ownsRow_rowV ho5 (by unfold sealN; split <;> omega) (sectZ_b HB4.out.row.bytes _))
    have HV5 := Lib.hid (HV4.out.gr hc5)
    have HX5 := Lib.hid ((hc5.block H3 (blk_lt HX4.out) (fun f => f)).trans HX4.out)
    have HO5 := Lib.hid (ownsRow_ch HO4.out hc5)
    have HB5 := Lib.hid (HB4.out.gr hc5)
    clear ho5 hc5
    go_wp2_with fail
    refine (same_any _ _ 256 _ _ _ _ _ _ HV5.out HS5.out).mono ?_
    rintro e w6 ⟨rfl, d, hw6⟩
    have hc6 : Ch (fun _ => False) w5 w6 := by rw [hw6]; exact (Ch.refl _ w5).drewN d
    have HL6 := Lib.hid (load_bk ((hc6.block H3 (blk_lt HX5.out) (fun f => f)).trans HX5.out))
    have HC16 := Lib.hid (HC15.out.trans hc6)
    have HO6 := Lib.hid (ownsRow_ch HO5.out hc6)
    have HB6 := Lib.hid (HB5.out.gr hc6)
    have hcx1 : w6.heap[H]? = some (.cells (bkC bk0) 71 (0, 0)) := (HC16.out.block H HH.out.1 (fun f => f)).trans HZ.out.cx
    obtain ⟨wn, hn⟩ := stR (b := bk0) hcx1 bk0_V
    obtain ⟨wy, hy⟩ := stR (b := r) hcx1 ⟨_, _, _, HRV.out⟩
    have hH : w.heap.size ≤ H := by rw [HZ.out.sz]; exact Nat.le_refl _
    have HN := Lib.hid hn
    have HY := Lib.hid hy
    have HPN := Lib.hid (show opensB 256 z = false → OpenPost 256 z w (.returned (.tuple #[.agg (bkC bk0), .int .i64 7])) wn from fun q =>
      openPost_no q (by rw [openE_at, q]; rfl) ((HZ.out.ch.trans HC16.out).over hn.ch hH))
    have HPY := Lib.hid (show opensB 256 z = true → OpenPost 256 z w (.returned (.tuple #[.agg (bkC r), .int .i64 0])) wy from fun q => by
      have hb : BkIs wy r := by
        have hb6 := HB6.out
        have hoy : wy.ownsRow wc.heap.size /-t-/5 1 (.slice A3 X C3) X (bytesL X (bodyZ z)) := own_of HO6.out (fun i hi => hy.ch.block i (World.ownsRow.lt HO6.out i hi).2 (fun e => by
          have h5 := (World.ownsRow.lt HO6.out i hi).1
          have h6 := HWC.out
          have h7 := HH.out.1
          omega))
        refine ⟨hb6.kind, hb6.vol, hb6.addr, hb6.epoch, hb6.seq, ?_⟩
        have hrow := ownsRow_rowV hoy (by omega) (fun c hc => HBY.out _ (by omega))
        rw [HRL.out] at hrow
        rw [HRD.out, HRL.out]
        exact hrow
      rw [HRD.out] at hb ⊢
      exact openPost_yes q (by rw [openE_at, q]; rfl) hb ((HZ.out.ch.trans HC16.out).over hy.ch hH))
    have HAT := Lib.hid (show opensB 256 z = (decide (sealE r = 0) && eqB 256 (sealN r) z (sectZ r)) from opensB_seal HSE.out HSZ.out)
    obtain ⟨q, hq⟩ : ∃ q, q = eqB 256 (sealN r) z (sectZ r) := ⟨_, rfl⟩
    obtain ⟨E, hE⟩ : ∃ E, E = sealE r := ⟨_, rfl⟩
    rw [← hq, ← hE] at HAT
    rw [← hq, ← hE]
    clear hn hy hcx1 hq hE hw6 hc6
    by_cases h0 : E = 0
    · subst h0
      have HQ := Lib.hid (show opensB 256 z = q by rw [HAT.out]; rfl)
      cases q
      · go_wp2_with ((with_reducible refine wpList_isOp (.store 71 (.tmp 2) (.tmp 56)) rfl ?_); refine wpList_storing _ wn rfl 71 (.tmp 2) (.tmp 56) rfl (.agg (bkC bk0)) ⟨H, 0, none⟩ rfl rfl (by exact HN.out.st) ?_)
        exact bodyPost_ret (v := .tuple #[.agg (bkC bk0), .int .i64 7]) (results_bk Tryz.results44 _ _ H bk0 rfl HN.out.cx) rfl (HPN.out HQ.out)
      · go_wp2_with (first
          | ((with_reducible refine wpList_isOp (.load 71 (.tmp 5)) rfl ?_); refine wpList_loading _ rfl 71 (.tmp 5) rfl (.agg (bkC r)) ⟨H3, 0, none⟩ rfl (by exact HL6.out) ?_)
          | ((with_reducible refine wpList_isOp (.store 71 (.tmp 2) (.tmp 57)) rfl ?_); refine wpList_storing _ wy rfl 71 (.tmp 2) (.tmp 57) rfl (.agg (bkC r)) ⟨H, 0, none⟩ rfl rfl (by exact HY.out.st) ?_))
        exact bodyPost_ret (v := .tuple #[.agg (bkC r), .int .i64 0]) (results_bk Tryz.results44 _ _ H r rfl HY.out.cx) rfl (HPY.out HQ.out)
    · have HQ := Lib.hid (show opensB 256 z = false by rw [HAT.out, decide_eq_false h0, Bool.false_and])
      have t3 : (E != 0) = true := by simpa using h0
      clear h0
      go_wp2_with ((with_reducible refine wpList_isOp (.store 71 (.tmp 2) (.tmp 56)) rfl ?_); refine wpList_storing _ wn rfl 71 (.tmp 2) (.tmp 56) rfl (.agg (bkC bk0)) ⟨H, 0, none⟩ rfl rfl (by exact HN.out.st) ?_)
      exact bodyPost_ret (v := .tuple #[.agg (bkC bk0), .int .i64 7]) (results_bk Tryz.results44 _ _ H bk0 rfl HN.out.cx) rfl (HPN.out HQ.out)
theorem ropen_any (A : Option Addr) (n C : Nat) (z : Nat → Nat) (w : World) (h : RowV w (.slice A n C) n z) : Calls Tryz.prog 44 #[.slice A n C] w (OpenPost n z w) := by
  by_cases e : n = 256
  · subst e; exact ropen_at A C z w h
  · obtain ⟨_, _, _, h2, _⟩ := id h
    exact ropen_long A n C z w h2.1 e
end Go.Proofs.YtlbdopcchoklhaaGreat

namespace Go.Proofs.YtlbdopcchoklhaaGreat

theorem pw_leF (k : Nat) (h : k ≤ 16) : pwF k ≤ 65536 := by
  have := Nat.pow_le_pow_right (show 0 < 2 by omega) h
  unfold pwF
  omega
theorem pw_succF (k : Nat) : pwF (k + 1) = pwF k * 2 := Nat.pow_succ 2 k
theorem pw_pos (k : Nat) : 0 < pwF k := Nat.pow_pos (by omega)
theorem half (a j : Nat) : shF a (j + 1) = shF a j / 2 := by unfold shF; rw [Nat.pow_succ, Nat.div_div_eq_div_mul]
theorem sh_leF (a j : Nat) : shF a j ≤ a := Nat.div_le_self _ _
theorem bt_lt (a k : Nat) : bt a k < 2 := Nat.mod_lt _ (by omega)
theorem bt_ne (a b k : Nat) : (bt a k = bt b k) ↔ (a ^^^ b).testBit k = false := by
  unfold bt
  rw [Nat.testBit_xor, Nat.testBit_eq_decide_div_mod_eq, Nat.testBit_eq_decide_div_mod_eq]
  have h1 := Nat.mod_two_eq_zero_or_one (a / 2 ^ k)
  have h2 := Nat.mod_two_eq_zero_or_one (b / 2 ^ k)
  rcases h1 with h1 | h1 <;> rcases h2 with h2 | h2 <;> simp [h1, h2]
theorem xm_same (a b k : Nat) (h : bt a k = bt b k) : xm a b (k + 1) = xm a b k := by
  unfold xm
  have := (bt_ne a b k).1 h
  rw [Nat.testBit_eq_decide_div_mod_eq] at this
  have h2 := Nat.mod_two_eq_zero_or_one ((a ^^^ b) / 2 ^ k)
  rw [Nat.mod_pow_succ]
  rcases h2 with h2 | h2
  · rw [h2]; rfl
  · rw [h2] at this; simp at this
theorem xm_other (a b k : Nat) (h : ¬ bt a k = bt b k) : xm a b (k + 1) = xm a b k + pwF k := by
  unfold xm pwF
  have h2 := Nat.mod_two_eq_zero_or_one ((a ^^^ b) / 2 ^ k)
  rw [Nat.mod_pow_succ]
  rcases h2 with h2 | h2
  · exact absurd ((bt_ne a b k).2 (by rw [Nat.testBit_eq_decide_div_mod_eq, h2]; rfl)) h
  · rw [h2, Nat.mul_one]
theorem xm_lt (a b k : Nat) : xm a b k < pwF k := Nat.mod_lt _ (Nat.pow_pos (by omega))
theorem xm_all (a b : Nat) (ha : a < 65536) (hb : b < 65536) : xm a b 16 = xr a b := Nat.mod_eq_of_lt (Nat.xor_lt_two_pow (by omega) (by omega))
theorem xr_lt {a b : Nat} (ha : a < 65536) (hb : b < 65536) : xr a b < 65536 := Nat.xor_lt_two_pow (n := 16) ha hb

theorem prod_lt (a k : Nat) (ha : a < 256) (h : k < 8) : a * pwF k < 65536 := by
  have := pw7F k h
  have : a * pwF k ≤ 255 * 128 := Nat.mul_le_mul (by omega) this
  omega
theorem m1_lt (a b k : Nat) (ha : a < 256) (h : k ≤ 8) : m1 a b k < 65536 := by
  induction k with
  | zero => show 0 < 65536; omega
  | succ k ih =>
    have := ih (by omega)
    unfold m1
    split
    · exact xr_lt this (prod_lt a k ha (by omega))
    · exact this
theorem red_lt (n k : Nat) (hn : n < 65536) (h : k ≤ 15) : red n k < 65536 := by
  unfold red
  split
  · refine xr_lt hn ?_
    have := pw7F (k - 8) (by omega)
    have : 285 * pwF (k - 8) ≤ 285 * 128 := Nat.mul_le_mul (by omega) this
    omega
  · exact hn
theorem m2_lt (n j : Nat) (hn : n < 65536) : m2 n j < 65536 := by
  induction j with
  | zero => exact hn
  | succ j ih => exact red_lt _ _ ih (by omega)

theorem bt_xr (a b k : Nat) : bt (xr a b) k = (bt a k + bt b k) % 2 := by
  have e := bt_ne a b k
  have h1 := bt_lt a k
  have h2 := bt_lt b k
  have h3 := bt_lt (xr a b) k
  rw [Nat.testBit_eq_decide_div_mod_eq] at e
  have e' : (bt a k = bt b k) ↔ ¬ bt (xr a b) k = 1 := by
    rw [e]; simp [bt, xr]
  omega
theorem red_xr (a b k : Nat) : red (xr a b) k = xr (red a k) (red b k) := by
  unfold red
  have e := bt_xr a b k
  have h1 := bt_lt a k
  have h2 := bt_lt b k
  generalize 285 * pwF (k - 8) = p
  by_cases ha : bt a k = 1 <;> by_cases hb : bt b k = 1
  · rw [if_neg (by omega), if_pos ha, if_pos hb]
    unfold xr
    rw [show a ^^^ p ^^^ (b ^^^ p) = a ^^^ b ^^^ (p ^^^ p) by ac_rfl, Nat.xor_self, Nat.xor_zero]
  · rw [if_pos (by omega), if_pos ha, if_neg hb]
    unfold xr; ac_rfl
  · rw [if_pos (by omega), if_neg ha, if_pos hb]
    unfold xr; ac_rfl
  · rw [if_neg (by omega), if_neg ha, if_neg hb]
theorem m2_xr (a b j : Nat) : m2 (xr a b) j = xr (m2 a j) (m2 b j) := by
  induction j with
  | zero => rfl
  | succ j ih => simp only [m2, ih, red_xr]
theorem m2_one' : (List.range 256).all (fun a => (List.range 8).all fun k => m2 (a * pwF k) 8 == Gf.itd k a) = true := by decide +kernel
theorem m2_one {a k : Nat} (ha : a < 256) (hk : k < 8) : m2 (a * pwF k) 8 = Gf.itd k a := by
  have := List.all_eq_true.1 (List.all_eq_true.1 m2_one' a (List.mem_range.2 ha)) k (List.mem_range.2 hk)
  simpa using this
theorem pw_ex' : (List.range 8).all (fun k => Gf.ex k == pwF k) = true := by decide +kernel
theorem pw_ex {k : Nat} (hk : k < 8) : Gf.ex k = pwF k := by simpa using List.all_eq_true.1 pw_ex' k (List.mem_range.2 hk)
theorem mul_pw {a k : Nat} (ha : a < 256) (hk : k < 8) : Gf.mul a (pwF k) = Gf.itd k a := by
  rw [Gf.mul_comm, Gf.mul_itd ha (pw_pos k), ← pw_ex hk, Gf.lg_ex, Nat.mod_eq_of_lt (by omega)]
theorem m1_part (a b k : Nat) (ha : a < 256) (hk : k ≤ 8) : m2 (m1 a b k) 8 = Gf.mul a (b % pwF k) := by
  induction k with
  | zero =>
    show m2 0 8 = Gf.mul a (b % 1)
    rw [Nat.mod_one, Gf.mul_zero]; decide +kernel
  | succ k ih =>
    have ih := ih (by omega)
    have hm : b % pwF k < pwF k := Nat.mod_lt _ (pw_pos k)
    have h7 := pw7F k (by omega)
    have e : b % pwF (k + 1) = b % pwF k + pwF k * bt b k := by unfold pwF bt; rw [Nat.mod_pow_succ]
    have h2 := bt_lt b k
    unfold m1
    by_cases h : bt b k = 1
    · rw [if_pos h, m2_xr, ih, m2_one ha (by omega), ← mul_pw ha (by omega)]
      unfold xr
      rw [← Gf.mul_xor ha (by omega) (by omega), low_xor (by omega) hm, e, h, Nat.mul_one]
    · rw [if_neg h, ih, e, show bt b k = 0 by omega, Nat.mul_zero, Nat.add_zero]
theorem rmul_eq {a b : Nat} (ha : a < 256) (hb : b < 256) : rmul a b = Gf.mul a b := by
  unfold rmul
  rw [m1_part a b 8 ha (by omega), Nat.mod_eq_of_lt (by show b < 256; omega)]
end Go.Proofs.YtlbdopcchoklhaaGreat

namespace Go.Proofs.YtlbdopcchoklhaaGreat
open Go.RowKit

set_option maxHeartbeats 400000 in
theorem power_any (k : Int) (h0 : 0 ≤ k) (h1 : k ≤ 16) (w : World) :
    Calls Tryz.prog 131 #[.int .i64 k] w fun e w' => e = .returned (.int .i64 (pwF k.toNat : Int)) ∧ w = w' := by
  obtain ⟨k, rfl⟩ := Int.eq_ofNat_of_zero_le h0
  rw [Int.toNat_natCast]
  go_enter Tryz.func131, Tryz.ntmps131
  go_wp2
  go_loop [3, 4] (fun n i => ∃ j : Nat, j ≤ k ∧ i = .int .i64 j ∧ n = .int .i64 (pwF j : Int)) (fun _ i => k - (intOf i).toNat)
  case atStart => exact ⟨0, Nat.zero_le _, rfl, rfl⟩
  case round =>
    obtain ⟨j, hj, rfl, rfl⟩ := hrel
    have hp := pw_leF j (by omega)
    have HS := Lib.hid (pw_succF j)
    by_cases hlt : j < k
    · go_wp2
      go_round
      case rel => exact ⟨j + 1, by omega, by go_num, by rw [HS.out]; go_num⟩
      case measure => simp [intOf]; omega
    · have HE := Lib.hid (show k = j by omega)
      go_wp2
      go_ret
      exact ⟨ret_int (by rw [HE.out]), rfl⟩

set_option maxHeartbeats 400000 in
theorem bit_any (a k : Int) (a0 : 0 ≤ a) (a1 : a < 65536) (h0 : 0 ≤ k) (h1 : k ≤ 16) (w : World) :
    Calls Tryz.prog 129 #[.int .i64 a, .int .i64 k] w fun e w' => e = .returned (.int .i64 (bt a.toNat k.toNat : Int)) ∧ w = w' := by
  obtain ⟨k, rfl⟩ := Int.eq_ofNat_of_zero_le h0
  obtain ⟨a, rfl⟩ := Int.eq_ofNat_of_zero_le a0
  rw [Int.toNat_natCast, Int.toNat_natCast]
  go_enter Tryz.func129, Tryz.ntmps129
  go_wp2
  go_loop [0, 5] (fun n i => ∃ j : Nat, j ≤ k ∧ i = .int .i64 j ∧ n = .int .i64 (shF a j : Int)) (fun _ i => k - (intOf i).toNat)
  case atStart => exact ⟨0, Nat.zero_le _, rfl, by simp [shF]⟩
  case round =>
    obtain ⟨j, hj, rfl, rfl⟩ := hrel
    have hp := sh_leF a j
    have HS := Lib.hid (half a j)
    by_cases hlt : j < k
    · go_wp2
      go_round
      case rel => exact ⟨j + 1, by omega, by go_num, by rw [HS.out]; go_num⟩
      case measure => simp [intOf]; omega
    · have HE := Lib.hid (show k = j by omega)
      have HB := Lib.hid (show bt a j = shF a j % 2 from rfl)
      go_wp2
      go_ret
      exact ⟨ret_int (by rw [HE.out, HB.out]; omega), rfl⟩

set_option maxHeartbeats 800000 in
set_option maxRecDepth 100000 in
theorem sum_anyF (a b : Int) (a0 : 0 ≤ a) (a1 : a < 65536) (b0 : 0 ≤ b) (b1 : b < 65536) (w : World) :
    Calls Tryz.prog 130 #[.int .i64 a, .int .i64 b] w fun e w' => e = .returned (.int .i64 (xr a.toNat b.toNat : Int)) ∧ w = w' := by
  obtain ⟨a, rfl⟩ := Int.eq_ofNat_of_zero_le a0
  obtain ⟨b, rfl⟩ := Int.eq_ofNat_of_zero_le b0
  rw [Int.toNat_natCast, Int.toNat_natCast]
  have A := Lib.hid (show (0 : Int) ≤ (a : Int) ∧ (a : Int) < 65536 from ⟨a0, a1⟩)
  have B := Lib.hid (show (0 : Int) ≤ (b : Int) ∧ (b : Int) < 65536 from ⟨b0, b1⟩)
  clear a0 a1 b0 b1
  go_enter Tryz.func130, Tryz.ntmps130
  go_wp2
  go_loop [5, 6] (fun n i => ∃ j : Nat, j ≤ 16 ∧ i = .int .i64 j ∧ n = .int .i64 (xm a b j : Int)) (fun _ i => 16 - (intOf i).toNat)
  case atStart => exact ⟨0, Nat.zero_le _, rfl, by simp [xm, Nat.mod_one]⟩
  case round =>
    obtain ⟨j, hj, rfl, rfl⟩ := hrel
    have hp := pw_leF j (by omega)
    have hm := xm_lt a b j
    have HA := bt_lt a j
    have HB := bt_lt b j
    by_cases hlt : j < 16
    · by_cases hbit : bt a j = bt b j
      · have HS := Lib.hid (xm_same a b j hbit)
        have hbb : (((bt a j : Nat) : Int) != ((bt b j : Nat) : Int)) = false := by simp [hbit]
        clear hbit
        go_wp2_with (go_at_call 129; refine (bit_any _ _ (by omega) (by have := A.out; have := B.out; omega) (by omega) (by omega) _).mono ?_; rintro e w' ⟨rfl, rfl⟩; simp only [Int.toNat_natCast])
        go_round
        case rel => exact ⟨j + 1, by omega, by go_num, by rw [HS.out]⟩
        case measure => simp [intOf]; omega
      · have HS := Lib.hid (xm_other a b j hbit)
        have hbb : (((bt a j : Nat) : Int) != ((bt b j : Nat) : Int)) = true := by simp; omega
        clear hbit
        go_wp2_with (first | (go_at_call 129; refine (bit_any _ _ (by omega) (by have := A.out; have := B.out; omega) (by omega) (by omega) _).mono ?_; rintro e w' ⟨rfl, rfl⟩; simp only [Int.toNat_natCast]) | (go_at_call 131; refine (power_any _ (by omega) (by omega) _).mono ?_; rintro e w' ⟨rfl, rfl⟩; simp only [Int.toNat_natCast]))
        go_round
        case rel => exact ⟨j + 1, by omega, by go_num, by rw [HS.out]; go_num⟩
        case measure => simp [intOf]; omega
    · have HE := Lib.hid (show j = 16 by omega)
      have HX := Lib.hid (xm_all a b (by have := A.out; omega) (by have := B.out; omega))
      go_wp2
      go_ret
      exact ⟨ret_int (by rw [HE.out, HX.out]), rfl⟩

set_option maxHeartbeats 400000 in
theorem radd_any (a b : Int) (a0 : 0 ≤ a) (a1 : a < 256) (b0 : 0 ≤ b) (b1 : b < 256) (w : World) :
    Calls Tryz.prog 112 #[.int .u8 a, .int .u8 b] w fun e w' => e = .returned (.int .u8 (xr a.toNat b.toNat : Int)) ∧ w = w' := by
  have hx : xr a.toNat b.toNat < 256 := Gf.xor_lt (by omega) (by omega)
  go_enter Tryz.func112, Tryz.ntmps112
  go_wp2_with (go_at_call 130; refine (sum_anyF _ _ (by omega) (by omega) (by omega) (by omega) _).mono ?_; rintro e w' ⟨rfl, rfl⟩)
  go_ret
  exact ⟨rfl, rfl⟩

theorem toNat_prod (a p : Nat) : ((a : Int) * (p : Int)).toNat = a * p := by rw [← Int.natCast_mul, Int.toNat_natCast]
theorem toNat_285 (p : Nat) : ((285 : Int) * (p : Int)).toNat = 285 * p := by omega
theorem m1_yes (a b k : Nat) (h : bt b k = 1) : m1 a b (k + 1) = xr (m1 a b k) (a * pwF k) := by
  show (if bt b k = 1 then _ else _) = _
  rw [if_pos h]
theorem m1_no (a b k : Nat) (h : ¬ bt b k = 1) : m1 a b (k + 1) = m1 a b k := by
  show (if bt b k = 1 then _ else _) = _
  rw [if_neg h]
theorem m2_yes (n j : Nat) (h : bt (m2 n j) (15 - j) = 1) : m2 n (j + 1) = xr (m2 n j) (285 * pwF (15 - j - 8)) := by
  show (if bt (m2 n j) (15 - j) = 1 then _ else _) = _
  rw [if_pos h]
theorem m2_no (n j : Nat) (h : ¬ bt (m2 n j) (15 - j) = 1) : m2 n (j + 1) = m2 n j := by
  show (if bt (m2 n j) (15 - j) = 1 then _ else _) = _
  rw [if_neg h]

set_option maxHeartbeats 1600000 in
set_option maxRecDepth 100000 in
theorem rmul_any (a b : Int) (a0 : 0 ≤ a) (a1 : a < 256) (b0 : 0 ≤ b) (b1 : b < 256) (w : World) :
    Calls Tryz.prog 111 #[.int .u8 a, .int .u8 b] w fun e w' => e = .returned (.int .u8 (Gf.mul a.toNat b.toNat : Int)) ∧ w = w' := by
  obtain ⟨a, rfl⟩ := Int.eq_ofNat_of_zero_le a0
  obtain ⟨b, rfl⟩ := Int.eq_ofNat_of_zero_le b0
  rw [Int.toNat_natCast, Int.toNat_natCast]
  go_enter Tryz.func111, Tryz.ntmps111
  go_wp2
  go_loop [5, 6] (fun n i => ∃ j : Nat, j ≤ 8 ∧ i = .int .i64 j ∧ n = .int .i64 (m1 a b j : Int)) (fun _ i => 8 - (intOf i).toNat)
  case atStart => exact ⟨0, Nat.zero_le _, rfl, rfl⟩
  case round =>
    obtain ⟨j, hj, rfl, rfl⟩ := hrel
    have hm := m1_lt a b j (by omega) (by omega)
    by_cases hlt : j < 8
    · have hp := pw7F j hlt
      by_cases hbit : bt b j = 1
      · have HS := Lib.hid (m1_yes a b j hbit)
        have hq : a * pwF j ≤ 255 * 128 := Nat.mul_le_mul (by omega) hp
        have hbb : (((bt b j : Nat) : Int) == 1) = true := by simp [hbit]
        have hq1 : (0 : Int) ≤ (a : Int) * (pwF j : Int) := Int.mul_nonneg (by omega) (by omega)
        have hq2 : (a : Int) * (pwF j : Int) ≤ 32640 := by rw [← Int.natCast_mul]; omega
        clear hbit hq
        go_wp2_with (first | (go_at_call 129; refine (bit_any _ _ (by omega) (by omega) (by omega) (by omega) _).mono ?_; rintro e w' ⟨rfl, rfl⟩; simp only [Int.toNat_natCast]) | (go_at_call 131; refine (power_any _ (by omega) (by omega) _).mono ?_; rintro e w' ⟨rfl, rfl⟩; simp only [Int.toNat_natCast]) | (go_at_call 130; refine (sum_anyF _ _ (by omega) (by omega) (by omega) (by omega) _).mono ?_; rintro e w' ⟨rfl, rfl⟩; simp only [Int.toNat_natCast, toNat_prod]))
        go_round
        case rel => exact ⟨j + 1, by omega, by go_num, by rw [HS.out]⟩
        case measure => simp [intOf]; omega
      · have HS := Lib.hid (m1_no a b j hbit)
        have hbb : (((bt b j : Nat) : Int) == 1) = false := by rw [beq_eq_false_iff_ne]; omega
        clear hbit
        go_wp2_with (go_at_call 129; refine (bit_any _ _ (by omega) (by omega) (by omega) (by omega) _).mono ?_; rintro e w' ⟨rfl, rfl⟩; simp only [Int.toNat_natCast])
        go_round
        case rel => exact ⟨j + 1, by omega, by go_num, by rw [HS.out]⟩
        case measure => simp [intOf]; omega
    · have HE := Lib.hid (show j = 8 by omega)
      have HR := Lib.hid (show m2 (m1 a b 8) 8 = Gf.mul a b from rmul_eq (by omega) (by omega))
      go_wp2
      clear hm
      go_loop [5, 7] (fun n i => ∃ q : Nat, q ≤ 8 ∧ i = .int .i64 (15 - q : Int) ∧ n = .int .i64 (m2 (m1 a b 8) q : Int)) (fun _ i => (intOf i).toNat)
      case atStart => exact ⟨0, Nat.zero_le _, rfl, by rw [HE.out]; rfl⟩
      case round =>
        obtain ⟨q, hq, rfl, rfl⟩ := hrel
        have hm := m2_lt (m1 a b 8) q (m1_lt a b 8 (by omega) (by omega))
        by_cases hlq : q < 8
        · have e15 : ((15 : Int) - (q : Int)).toNat = 15 - q := by omega
          have e7 : ((15 : Int) - (q : Int) - 8).toNat = 15 - q - 8 := by omega
          have E15 := Lib.hid e15
          have E7 := Lib.hid e7
          clear e15 e7
          have hp := pw7F (15 - q - 8) (by omega)
          have hlt2 := bt_lt (m2 (m1 a b 8) q) (15 - q)
          by_cases hbit : bt (m2 (m1 a b 8) q) (15 - q) = 1
          · have HS := Lib.hid (m2_yes (m1 a b 8) q hbit)
            have hbb : (((bt (m2 (m1 a b 8) q) (15 - q) : Nat) : Int) == 1) = true := by simp [hbit]
            clear hbit
            go_wp2_with (first | (go_at_call 129; refine (bit_any _ _ (by omega) (by omega) (by omega) (by omega) _).mono ?_; rintro e w' ⟨rfl, rfl⟩; simp only [Int.toNat_natCast, E15.out]) | (go_at_call 131; refine (power_any _ (by omega) (by omega) _).mono ?_; rintro e w' ⟨rfl, rfl⟩; simp only [E7.out]) | (go_at_call 130; refine (sum_anyF _ _ (by omega) (by omega) (by omega) (by omega) _).mono ?_; rintro e w' ⟨rfl, rfl⟩; simp only [Int.toNat_natCast, toNat_285]))
            go_round
            case rel => exact ⟨q + 1, by omega, int_eq (by omega), by rw [HS.out]⟩
            case measure => simp [intOf]; omega
          · have HS := Lib.hid (m2_no (m1 a b 8) q hbit)
            have hbb : (((bt (m2 (m1 a b 8) q) (15 - q) : Nat) : Int) == 1) = false := by rw [beq_eq_false_iff_ne]; omega
            clear hbit
            go_wp2_with (go_at_call 129; refine (bit_any _ _ (by omega) (by omega) (by omega) (by omega) _).mono ?_; rintro e w' ⟨rfl, rfl⟩; simp only [Int.toNat_natCast, E15.out])
            go_round
            case rel => exact ⟨q + 1, by omega, int_eq (by omega), by rw [HS.out]⟩
            case measure => simp [intOf]; omega
        · have HQ := Lib.hid (show q = 8 by omega)
          have hml := Gf.mul_lt a b
          have hb : m2 (m1 a b 8) q < 256 := by rw [HQ.out, HR.out]; exact hml
          clear hm hml
          go_wp2
          go_ret
          exact ⟨ret_int (by rw [HQ.out, HR.out]), rfl⟩
end Go.Proofs.YtlbdopcchoklhaaGreat

namespace Go.Proofs.YtlbdopcchoklhaaGreat
open Go.RowKit

theorem first_quo {a b c : Nat} (hb : b < 256) (hb0 : 0 < b) (hc : c < 256) (h : Gf.mul c b = a) : c = Gf.quo a b := Gf.mul_only hc hb hb0 h
set_option maxHeartbeats 800000 in
set_option maxRecDepth 100000 in
theorem rdiv_any (a b : Int) (a0 : 0 ≤ a) (a1 : a < 256) (b0 : 0 ≤ b) (b1 : b < 256) (w : World) :
    Calls Tryz.prog 119 #[.int .u8 a, .int .u8 b] w fun e w' => e = .returned (.tuple #[.int .u8 (qv a.toNat b.toNat), .int .i64 (ze b.toNat)]) ∧ w = w' := by
  obtain ⟨a, rfl⟩ := Int.eq_ofNat_of_zero_le a0
  obtain ⟨b, rfl⟩ := Int.eq_ofNat_of_zero_le b0
  rw [Int.toNat_natCast, Int.toNat_natCast]
  by_cases hb : b = 0
  · subst hb
    go_enter Tryz.func119, Tryz.ntmps119
    go_wp2
    go_ret2
    exact ⟨rfl, rfl⟩
  have hb' : ((b : Int) == 0) = false := by rw [beq_eq_false_iff_ne]; omega
  have HB := Lib.hid hb
  have hbp : 0 < b := by omega
  clear hb
  go_enter Tryz.func119, Tryz.ntmps119
  go_wp2
  go_loop [6] (fun i => ∃ c : Nat, c ≤ 256 ∧ i = .int .i64 c ∧ Hid (∀ x, x < c → ¬ Gf.mul x b = a)) (fun i => 256 - (intOf i).toNat)
  case atStart => exact ⟨0, Nat.zero_le _, rfl, fun x hx => absurd hx (Nat.not_lt_zero x)⟩
  case round =>
    obtain ⟨c, hc, rfl, HN⟩ := hrel
    by_cases hlt : c < 256
    · by_cases he : Gf.mul c b = a
      · have HQ := Lib.hid (first_quo (by omega) hbp hlt he)
        have he' : (((Gf.mul c b : Nat) : Int) == (a : Int)) = true := by rw [he]; simp
        clear he
        go_wp2_with (go_at_call 111; refine (rmul_any _ _ (by omega) (by omega) (by omega) (by omega) _).mono ?_; rintro e w' ⟨rfl, rfl⟩; simp only [Int.toNat_natCast])
        go_ret2
        refine ⟨ret_pairF ?_ (ze_pos HB.out).symm, rfl⟩
        rw [qv_pos HB.out, ← HQ.out]
      · have HS : Hid (∀ x, x < c + 1 → ¬ Gf.mul x b = a) := fun x hx => by
          by_cases e : x = c
          · rw [e]; exact he
          · exact HN x (by omega)
        have he' : (((Gf.mul c b : Nat) : Int) == (a : Int)) = false := by rw [beq_eq_false_iff_ne]; omega
        clear he
        go_wp2_with (go_at_call 111; refine (rmul_any _ _ (by omega) (by omega) (by omega) (by omega) _).mono ?_; rintro e w' ⟨rfl, rfl⟩; simp only [Int.toNat_natCast])
        go_round
        case rel => exact ⟨c + 1, by omega, by go_num, HS⟩
        case measure => simp [intOf]; omega
    · exact absurd (Gf.mul_quo (by omega) (by omega) hbp) (HN.out (Gf.quo a b) (by have := Gf.quo_lt a b; omega))

end Go.Proofs.YtlbdopcchoklhaaGreat

namespace Go.Proofs.YtlbdopcchoklhaaGreat
open Go.RowKit
set_option linter.unusedVariables false
set_option maxRecDepth 100000

theorem Far.owns {lo base : Nat} {w : World} {e : TypeId} {v : Value} {n b : Nat} {xs : List Value} (h : w.ownsRow base e 1 v n xs) (hv : v.ownBlock = some b) (hl : lo ≤ b) : Far lo w b := ⟨hl, fun _ => by
  rcases h.2 with ⟨rfl, _⟩ | ⟨g, cap, cur, rfl, _, hgg, _⟩
  · cases hv
  · have e' : g = b := by simpa [Value.ownBlock] using hv
    rw [← e']
    exact ⟨cur, _, hgg⟩⟩
theorem Bld.moreCh {base : Nat} {w0 w w' : World} {v : Value} {k : Nat} {xs : List Value} (c : Array Value) (t : TypeId) (hc : Ch (fun _ => False) w0 w) (h1 : w.ownsRow base /-t-/24 1 v k xs) (hb : w0.heap.size ≤ base) (hg : (w.alloc (.cells c t)).grownBy w' v.ownBlock) : Ch (fun _ => False) w0 w' :=
  (hc.alloc c t).grown hg (fun i hi => Or.inr (Nat.le_trans hb (World.ownsRow.lt h1 i hi).1))


end Go.Proofs.YtlbdopcchoklhaaGreat

namespace Go.Proofs.YtlbdopcchoklhaaGreat
open Go.RowKit
set_option linter.unusedVariables false
set_option maxRecDepth 100000

set_option maxHeartbeats 1600000 in
set_option maxRecDepth 100000 in
theorem rmay_anyF (v : Value) (n : Nat) (L : Nat → Nat) (Z : Nat → Nat → Nat) (w : World) (h : MatV w v n L Z) :
    Calls Tryz.prog 69 #[v] w (Qu (.bool (mayBF n L)) w) := by
  by_cases hn : 0 < n
  · obtain ⟨b, o, C, rfl, hb, hr⟩ := h.some hn
    clear h
    by_cases h64 : n ≤ 64
    · obtain ⟨A0, D0, c0, l0, _⟩ := hr 0 hn
      rw [Nat.add_zero] at c0
      have HR := Lib.hid hr
      clear hr
      have i0 : (0 : Int) < (n : Int) := by omega
      have t1 : decide ((n : Int) < 1) = false := by simp; omega
      have t2 : decide ((64 : Int) < (n : Int)) = false := by simp; omega
      have C0 := Lib.hid c0
      clear c0
      go_enter Tryz.func69, Tryz.ntmps69
      go_wp2
      go_loopw [3] (fun i wr => ∃ k : Nat, k ≤ n ∧ i = .int .i64 k ∧ (∃ d, wr = w.drewN d) ∧ Hid (∀ r, r < k → 1 ≤ L r ∧ L r ≤ 4096 ∧ L r = L 0)) (fun i _ => n - (intOf i).toNat)
      case atStart => exact ⟨0, Nat.zero_le _, rfl, ⟨0, rfl⟩, fun r hr => absurd hr (Nat.not_lt_zero r)⟩
      case round =>
        obtain ⟨k, hk, rfl, ⟨d, rfl⟩, HK⟩ := hrel
        by_cases hlt : k < n
        · obtain ⟨Ak, Dk, ck, lk, _⟩ := HR.out k hlt
          have c0 := C0.out
          have i1 : (0 : Int) ≤ (k : Int) := Int.natCast_nonneg _
          have i2 : (k : Int) < (n : Int) := by omega
          by_cases g1 : 1 ≤ L k
          · have t3 : decide ((L k : Int) < 1) = false := by simp; omega
            by_cases g2 : L k ≤ 4096
            · have t4 : decide ((4096 : Int) < (L k : Int)) = false := by simp; omega
              by_cases he : L k = L 0
              · have hb' : ((L k : Int) != (L 0 : Int)) = false := by simp [he]
                have HS : Hid (∀ r, r < k + 1 → 1 ≤ L r ∧ L r ≤ 4096 ∧ L r = L 0) := fun r hr => by
                  by_cases e : r = k
                  · rw [e]; exact ⟨g1, g2, he⟩
                  · exact HK r (by omega)
                clear he
                go_wp2
                go_quiet (fail)
                go_wp2
                go_roundw
                case rel => exact ⟨k + 1, by omega, by go_num, ⟨_, rfl⟩, HS⟩
                case measure => simp [intOf]; omega
              · have hb' : ((L k : Int) != (L 0 : Int)) = true := by simp; omega
                have HS := Lib.hid (mayB_no (n := n) (L := L) (fun q => he (q.2.2.2.2 k hlt)))
                clear he
                go_wp2
                go_quiet (fail)
                go_wp2
                go_ret
                exact ⟨ret_bool HS.out.symm, _, World.drewN_drewN _ _ _⟩
            · have t4 : decide ((4096 : Int) < (L k : Int)) = true := by simp; omega
              have HS := Lib.hid (mayB_no (n := n) (L := L) (fun q => g2 (by have := q.2.2.2.2 k hlt; omega)))
              go_wp2
              go_quiet (fail)
              go_wp2
              go_ret
              exact ⟨ret_bool HS.out.symm, _, World.drewN_drewN _ _ _⟩
          · have t3 : decide ((L k : Int) < 1) = true := by simp; omega
            have HS := Lib.hid (mayB_no (n := n) (L := L) (fun q => g1 (by have := q.2.2.2.2 k hlt; omega)))
            go_wp2
            go_quiet (fail)
            go_wp2
            go_ret
            exact ⟨ret_bool HS.out.symm, _, World.drewN_drewN _ _ _⟩
        · have HE := Lib.hid (show k = n by omega)
          go_wp2
          go_ret
          have hk0 := HK.out 0 (by have := HE.out; omega)
          refine ⟨ret_bool (mayB_mk ⟨by omega, h64, hk0.1, hk0.2.1, fun r hr => (HK.out r (by have := HE.out; omega)).2.2⟩).symm, _, rfl⟩
    · have t1 : decide ((n : Int) < 1) = false := by simp; omega
      have t2 : decide ((64 : Int) < (n : Int)) = true := by simp; omega
      have HS := Lib.hid (mayB_no (n := n) (L := L) (fun q => h64 q.2.1))
      go_enter Tryz.func69, Tryz.ntmps69
      go_wp2
      go_ret
      exact ⟨ret_bool HS.out.symm, 0, rfl⟩
  · obtain rfl : n = 0 := by omega
    obtain ⟨A, C, rfl⟩ := h.none
    have HS := Lib.hid (mayB_no (n := 0) (L := L) (fun q => by omega))
    go_enter Tryz.func69, Tryz.ntmps69
    go_wp2
    go_ret
    exact ⟨ret_bool HS.out.symm, 0, rfl⟩
set_option maxHeartbeats 1600000 in
set_option maxRecDepth 100000 in
theorem same_anyF (v u : Value) (n : Nat) (L : Nat → Nat) (Z : Nat → Nat → Nat) (w : World) (h : MatV w v n L Z) (h2 : MatV w u n L Z) :
    Calls Tryz.prog 18 #[v, u] w (Qu (.bool true) w) := by
  by_cases hn : 0 < n
  · obtain ⟨b, o, C, rfl, hb, hr⟩ := h.some hn
    obtain ⟨b2, o2, C2, rfl, _, hr2⟩ := h2.some hn
    have HR := Lib.hid hr
    have HR2 := Lib.hid hr2
    clear hr hr2 h h2
    go_enter Tryz.func18, Tryz.ntmps18
    go_wp2
    go_loopw [5, 6] (fun i _ wr => ∃ k : Nat, k ≤ n ∧ i = .int .i64 k ∧ ∃ d, wr = w.drewN d) (fun i _ _ => n - (intOf i).toNat)
    case atStart => exact ⟨0, Nat.zero_le _, rfl, 0, rfl⟩
    case round =>
      obtain ⟨k, hk, rfl, d, rfl⟩ := hrel
      by_cases hlt : k < n
      · obtain ⟨A, D, ck, lk, hk3⟩ := HR.out k hlt
        obtain ⟨A2, D2, ck2, _, hk4⟩ := HR2.out k hlt
        have HK3 := Lib.hid hk3
        have HK4 := Lib.hid hk4
        clear hk3 hk4
        have i1 : (0 : Int) ≤ (k : Int) := Int.natCast_nonneg _
        have i2 : (k : Int) < (n : Int) := by omega
        have hb' : ((L k : Int) != (L k : Int)) = false := by simp
        by_cases hl : 0 < L k
        · obtain ⟨a, f, rfl, hc⟩ := HK3.out hl
          obtain ⟨a2, f2, rfl, hc2⟩ := HK4.out hl
          have HC := Lib.hid hc
          have HC2 := Lib.hid hc2
          clear hc hc2
          go_wp2
          go_quiet (fail)
          go_wp2
          go_loopw [6] (fun i wr => ∃ q : Nat, q ≤ L k ∧ i = .int .i64 q ∧ ∃ d, wr = w.drewN d) (fun i _ => L k - (intOf i).toNat)
          case atStart => exact ⟨0, Nat.zero_le _, rfl, _, World.drewN_drewN _ _ _⟩
          case round =>
            obtain ⟨q, hq, rfl, d3, rfl⟩ := hrel
            by_cases hql : q < L k
            · have e1 := (HC.out q hql).1
              have e2 := (HC2.out q hql).1
              have i3 : (0 : Int) ≤ (q : Int) := Int.natCast_nonneg _
              have i4 : (q : Int) < (L k : Int) := by omega
              have hb2 : ((Z k q : Int) != (Z k q : Int)) = false := by simp
              go_wp2
              go_quiet (fail)
              go_wp2
              go_roundw
              case rel => exact ⟨q + 1, by omega, by go_num, _, rfl⟩
              case measure => simp [intOf]; omega
            · go_wp2
              go_roundw
              case rel => exact ⟨k + 1, by omega, by go_num, _, rfl⟩
              case measure => simp [intOf]; omega
        · have hz : L k ≤ 0 := by omega
          go_wp2
          go_quiet (fail)
          go_wp2
          refine wp_loop_rounds 1 ?_
          rw [rounds_succ]
          go_wp2
          go_roundw
          case rel => exact ⟨k + 1, by omega, by go_num, _, rfl⟩
          case measure => simp [intOf]; omega
      · go_wp2
        go_ret
        exact ⟨rfl, d, rfl⟩
  · obtain rfl : n = 0 := by omega
    obtain ⟨A, C, rfl⟩ := h.none
    obtain ⟨A2, C2, rfl⟩ := h2.none
    go_enter Tryz.func18, Tryz.ntmps18
    go_wp2
    refine wp_loop_rounds 1 ?_
    rw [rounds_succ]
    go_wp2
    go_ret
    exact ⟨rfl, 0, rfl⟩
end Go.Proofs.YtlbdopcchoklhaaGreat

namespace Go.Proofs.YtlbdopcchoklhaaGreat
open Go.RowKit
set_option linter.unusedVariables false
set_option maxRecDepth 100000

theorem made_one (k n : Nat) (i : Nat) (hi : i < ((madeCells #[Value.int .u8 0] n).setIfInBounds k (.int .u8 1)).size) : ((madeCells #[Value.int .u8 0] n).setIfInBounds k (.int .u8 1))[i]? = some (.int .u8 (oneZ k i : Int)) := by
  have hn : i < n := by simpa [size_madeCells] using hi
  rw [Array.getElem?_setIfInBounds]
  unfold oneZ
  by_cases e : k = i
  · subst e; simp [size_madeCells, hn]
  · rw [if_neg e, if_neg e]
    simp [madeCells, hn, Nat.mod_one]
set_option maxHeartbeats 1600000 in
theorem rone_new (n : Int) (n1 : 1 ≤ n) (n2 : n ≤ 64) (w : World) : Calls Tryz.prog 109 #[.int .i64 n] w (FreshPost n.toNat n.toNat oneZ w) := by
  obtain ⟨n, rfl⟩ := Int.eq_ofNat_of_zero_le (show 0 ≤ n by omega)
  rw [Int.toNat_natCast]
  have t1 : decide ((n : Int) < 1) = false := by simp; omega
  have t2 : decide ((64 : Int) < (n : Int)) = false := by simp; omega
  have hmk2 := run_make_row' (P := Tryz.prog) 24 5 (.int .u8 0) 1 Tryz.underlying24 Tryz.info5 rfl .i64 .i64 n (by omega) (by omega)
  obtain ⟨i0, hi, hz0, hz1, hz2⟩ := info_parts Tryz.info24
  go_enter Tryz.func109, Tryz.ntmps109
  go_wp2
  go_loopw [4, 5, 6] (fun v i _ wr => ∃ k : Nat, k ≤ n ∧ i = .int .i64 k ∧ Ch (fun _ => False) w wr ∧ Bld w.heap.size wr v k (fun _ => n) oneZ) (fun _ i _ _ => n - (intOf i).toNat)
  case atStart => exact ⟨0, Nat.zero_le _, rfl, Ch.refl _ _, Bld.nil _ _ _ _⟩
  case round =>
    obtain ⟨k, hk, rfl, hch, hbld⟩ := hrel
    by_cases hlt : k < n
    · obtain ⟨xs, ho, hrows⟩ := hbld
      have c0 := (World.rowIs_made wr (.int .u8 0) n /-t-/5).cell hlt
      have f0 := (World.rowIs_made wr (.int .u8 0) n /-t-/5).frozen k
      obtain ⟨W, hW⟩ : ∃ W, W = wr.alloc (.cells ((madeCells #[Value.int .u8 0] n).setIfInBounds k (.int .u8 1)) /-t-/5) := ⟨_, rfl⟩
      have hWr : W.rowIs wr.heap.size /-t-/5 n (fun c => .int .u8 (oneZ k c : Int)) := by
        have := World.rowIs_alloc wr ((madeCells #[Value.int .u8 0] n).setIfInBounds k (.int .u8 1)) /-t-/5 (fun c => .int .u8 (oneZ k c : Int)) (made_one k n)
        rw [hW]; simpa [size_madeCells] using this
      have hWs : W.heap.size = wr.heap.size + 1 := by rw [hW]; simp
      have hWc : Ch (fun _ => False) wr W := by rw [hW]; exact (Ch.refl _ _).alloc _ _
      have hWo : W.ownsRow w.heap.size /-t-/24 1 u4 k xs := ownsRow_ch ho hWc
      have hWrows : ∀ r, r < k → ∃ x, xs[r]? = some x ∧ RowV W x n (oneZ r) ∧ ∀ b, x.ownBlock = some b → b < W.heap.size ∧ u4.ownBlock ≠ some b ∧ Far w.heap.size W b := fun r hr => by
        obtain ⟨x, hx, hv, hoo⟩ := hrows r hr
        exact ⟨x, hx, hv.ch hWc (fun _ _ f => f), fun b hb => ⟨Nat.lt_of_lt_of_le (hoo b hb).1 hWc.size, (hoo b hb).2.1, (hoo b hb).2.2.ch hWc (hoo b hb).1⟩⟩
      have hX : RowV W (.slice (some ⟨wr.heap.size, 0, none⟩) n n) n (oneZ k) := ⟨_, _, rfl, by omega, fun _ => ⟨_, 0, rfl, fun c hc => ⟨by rw [Nat.zero_add]; exact hWr.cell hc, by unfold oneZ; split <;> omega⟩⟩⟩
      have hXb : ∀ b, (Value.slice (some ⟨wr.heap.size, 0, none⟩) n n).ownBlock = some b → b < W.heap.size ∧ u4.ownBlock ≠ some b ∧ Far w.heap.size W b := fun b hb => by
        have e : wr.heap.size = b := by simpa [Value.ownBlock] using hb
        have hs0 := hch.size
        refine ⟨by omega, fun q => ?_, Far.row (e ▸ hWr) (by omega)⟩
        have := (World.ownsRow.lt ho b q).2
        omega
      have HN := Lib.hid (show ∀ j u, [Value.slice (some ⟨wr.heap.size, 0, none⟩) n n][j]? = some u → (W.alloc (.cells #[.slice (some ⟨wr.heap.size, 0, none⟩) n n] /-t-/24)).cell? ((⟨wr.heap.size + 1, 0, none⟩ : Addr).add j) = some u from by rw [← hWs]; exact one_news W _ _)
      have HO2 := Lib.hid (hWo.alloc (.cells #[.slice (some ⟨wr.heap.size, 0, none⟩) n n] /-t-/24))
      have HS2 := Lib.hid (show (W.alloc (.cells #[.slice (some ⟨wr.heap.size, 0, none⟩) n n] /-t-/24)).heap.size = wr.heap.size + 2 by simp [hWs])
      have HB2 := Lib.hid (show w.heap.size ≤ (W.alloc (.cells #[.slice (some ⟨wr.heap.size, 0, none⟩) n n] /-t-/24)).heap.size by have := hch.size; simp; omega)
      have HWO := Lib.hid hWo
      have HWR := Lib.hid hWrows
      have HX := Lib.hid hX
      have HXB := Lib.hid hXb
      have HWC := Lib.hid (hch.trans hWc)
      have HWS := Lib.hid hWs
      have HW := Lib.hid hW
      have H1 := Lib.hid (show ∀ u ∈ [Value.slice (some ⟨wr.heap.size, 0, none⟩) n n], u.oneCell' = true from fun u hu => by rw [List.mem_singleton] at hu; rw [hu]; rfl)
      have HM1 := Lib.hid (show k + 1 ≤ maxLen by unfold maxLen; omega)
      have HM2 := Lib.hid (show (k + 1) * 24 ≤ 140737488355328 by omega)
      rw [HW.out] at HN HO2 HS2 HB2
      clear hW hWr hWs hWc hWo hWrows hX hXb ho hrows
      go_wp2_with (at_builtin; refine wpList_append_lies _ rfl _ _ /-t-/37 rfl w.heap.size /-t-/24 i0 (.slice none 0 0) 1 24 Tryz.underlying37 hi hz0 hz1 hz2 rfl (by decide) u4 k xs rfl HO2.out ⟨wr.heap.size + 1, 0, none⟩ 1 1 [.slice (some ⟨wr.heap.size, 0, none⟩) n n] rfl rfl HN.out H1.out (by decide) HM1.out HM2.out HB2.out (wr.heap.size + 2) HS2.out ?_; intro g cap w1 h1 h2 h3 h4)
      rw [← HW.out] at h2
      have hnb : Bld w.heap.size w1 (.slice (some ⟨g, 0, none⟩) (k + 1) cap) (k + 1) (fun _ => n) oneZ := Bld.more _ HWO.out HWR.out HX.out HXB.out h1 h2 (by rw [HWS.out]; exact h3)
      have hnc : Ch (fun _ => False) w w1 := Bld.moreCh _ _ HWC.out HWO.out (Nat.le_refl _) h2
      clear h1 h2 h3 h4
      go_wp2
      go_roundw
      case rel => exact ⟨k + 1, by omega, by go_num, hnc, hnb⟩
      case measure => simp [intOf]; omega
    · have HE := Lib.hid (show k = n by omega)
      obtain ⟨A, C, rfl, _⟩ := id (hbld.mat (by omega))
      have HM := Lib.hid hbld
      clear hbld
      go_wp2
      go_ret2
      exact ⟨_, rfl, by have := HM.out; rw [HE.out] at this; rw [HE.out]; exact this, hch⟩
end Go.Proofs.YtlbdopcchoklhaaGreat

namespace Go.Proofs.YtlbdopcchoklhaaGreat
open Go.RowKit
set_option linter.unusedVariables false
set_option maxRecDepth 100000

/-- One byte more. -/
theorem row_more {base : Nat} {w0 w w' : World} {v : Value} {k g cap : Nat} {z : Nat → Nat} (hc : Ch (fun _ => False) w0 w) (h1 : w.ownsRow base /-t-/5 1 v k (bytesL k z)) (hb : w0.heap.size ≤ base) (c : Array Value) (t : TypeId)
    (h : w'.ownsRow base /-t-/5 1 (.slice (some ⟨g, 0, none⟩) (k + 1) cap) (k + 1) (bytesL k z ++ [Value.int .u8 (z k : Int)])) (hg : (w.alloc (.cells c t)).grownBy w' v.ownBlock) :
    w'.ownsRow base /-t-/5 1 (.slice (some ⟨g, 0, none⟩) (k + 1) cap) (k + 1) (bytesL (k + 1) z) ∧ Ch (fun _ => False) w0 w' :=
  ⟨by rw [bytesL_snoc]; exact h, (hc.alloc c t).grown hg (fun i hi => Or.inr (Nat.le_trans hb (World.ownsRow.lt h1 i hi).1))⟩
theorem off_new {base b2 : Nat} {w0 w : World} {v rv : Value} {k c : Nat} {xs ys : List Value} {e : TypeId} (h1 : w0.ownsRow base /-t-/24 1 v k xs) (hch : Ch (fun _ => False) w0 w) (h2 : w.ownsRow w0.heap.size e 1 rv c ys) {lo : Nat} (hlo : lo ≤ w0.heap.size) :
    ∀ b, rv.ownBlock = some b → b < w.heap.size ∧ v.ownBlock ≠ some b ∧ Far lo w b := fun b hb => by
  have := World.ownsRow.lt h2 b hb
  refine ⟨this.2, fun q => ?_, Far.owns h2 hb (by omega)⟩
  have := (World.ownsRow.lt h1 b q).2
  omega

set_option maxHeartbeats 1600000 in
set_option maxRecDepth 100000 in
theorem rcauchy_new (n m : Int) (n1 : 1 ≤ n) (n2 : n ≤ 64) (m1 : 1 ≤ m) (m2 : m ≤ 64) (w : World) : Calls Tryz.prog 110 #[.int .i64 n, .int .i64 m] w (FreshPost n.toNat m.toNat (cauZ m.toNat) w) := by
  obtain ⟨n, rfl⟩ := Int.eq_ofNat_of_zero_le (show 0 ≤ n by omega)
  obtain ⟨m, rfl⟩ := Int.eq_ofNat_of_zero_le (show 0 ≤ m by omega)
  rw [Int.toNat_natCast, Int.toNat_natCast]
  have t1 : decide ((n : Int) < 1) = false := by simp; omega
  have t2 : decide ((m : Int) < 1) = false := by simp; omega
  have t3 : decide ((64 : Int) < (n : Int)) = false := by simp; omega
  have t4 : decide ((64 : Int) < (m : Int)) = false := by simp; omega
  obtain ⟨i0, hi, hz0, hz1, hz2⟩ := info_parts Tryz.info24
  obtain ⟨j0, gi, gz0, gz1, gz2⟩ := info_parts Tryz.info5
  go_enter Tryz.func110, Tryz.ntmps110
  go_wp2
  go_loopw [6, 7, 8, 9] (fun v i _ _ wr => ∃ k : Nat, k ≤ n ∧ i = .int .i64 k ∧ Ch (fun _ => False) w wr ∧ Bld w.heap.size wr v k (fun _ => m) (cauZ m)) (fun _ i _ _ _ => n - (intOf i).toNat)
  case atStart => exact ⟨0, Nat.zero_le _, rfl, Ch.refl _ _, Bld.nil _ _ _ _⟩
  case round =>
    obtain ⟨k, hk, rfl, hch, hbld⟩ := hrel
    by_cases hlt : k < n
    · obtain ⟨wo, rfl⟩ : ∃ wo : World, wo = wr := ⟨_, rfl⟩
      obtain ⟨xs, ho, hrows⟩ := hbld
      have HO := Lib.hid ho
      have HR := Lib.hid hrows
      have HCH := Lib.hid hch
      clear ho hrows hch
      go_wp2
      go_loopw [8, 9] (fun v i wi => ∃ c : Nat, c ≤ m ∧ i = .int .i64 c ∧ Ch (fun _ => False) wo wi ∧ wi.ownsRow wo.heap.size /-t-/5 1 v c (bytesL c (cauZ m k))) (fun _ i _ => m - (intOf i).toNat)
      case atStart => exact ⟨0, Nat.zero_le _, rfl, Ch.refl _ _, World.ownsRow_nil _ _ _ _⟩
      case round =>
        obtain ⟨c, hc, rfl, hch2, hrow⟩ := hrel
        by_cases hlt2 : c < m
        · have HV := Lib.hid (show qv 1 (xr (m + k) c) = (cauZ m k c : Int) from by rw [qv_pos (cau_sum hlt2)]; rfl)
          have hx : xr (m + k) c < 256 := Gf.xor_lt (by omega) (by omega)
          have HT := Lib.hid (show ((m : Int) + (k : Int)).toNat = m + k by omega)
          have HA := Lib.hid (app_mk (x := .int .u8 (cauZ m k c : Int)) hrow hch2.size rfl (by omega))
          have HRW := Lib.hid hrow
          have HC2 := Lib.hid hch2
          have HM2 := Lib.hid (show (c + 1) * 1 ≤ 140737488355328 by omega)
          clear hrow hch2
          go_wp2_with fail
          refine (radd_any _ _ (by omega) (by omega) (by omega) (by omega) _).mono ?_
          rintro e w1 ⟨rfl, rfl⟩
          rw [HT.out, Int.toNat_natCast]
          go_wp2_with fail
          refine (rdiv_any _ _ (by omega) (by omega) (by omega) (by omega) _).mono ?_
          rintro e w1 ⟨rfl, rfl⟩
          rw [Int.toNat_natCast, show (1 : Int).toNat = 1 from rfl, HV.out]
          go_wp2_with (at_builtin; refine wpList_append_lies _ rfl _ _ /-t-/24 rfl wo.heap.size /-t-/5 j0 (.int .u8 0) 1 1 Tryz.underlying24 gi gz0 gz1 gz2 rfl (by decide) _ c (bytesL c (cauZ m k)) rfl HA.out.o ⟨wr.heap.size, 0, none⟩ 1 1 [.int .u8 (cauZ m k c : Int)] rfl rfl HA.out.n HA.out.c (by decide) HA.out.m HM2.out HA.out.b (wr.heap.size + 1) HA.out.s ?_; intro g cap w1 h1 h2 h3 h4)
          have hnext := row_more HC2.out HRW.out (Nat.le_refl _) _ _ h1 h2
          clear h1 h2 h3 h4
          go_wp2
          go_roundw
          case rel => exact ⟨c + 1, by omega, by go_num, hnext.2, hnext.1⟩
          case measure => simp [intOf]; omega
        · have HE := Lib.hid (show c = m by omega)
          rw [HE.out] at hrow
          have hX : RowV wr u8 m (cauZ m k) := ownsRow_rowV hrow (by omega) (fun q _ => cauZ_lt _ _ _)
          obtain ⟨A, C, rfl, _⟩ := id hX
          have hxb := off_new (b2 := 0) HO.out hch2 hrow HCH.out.size
          have ho2 := ownsRow_ch HO.out hch2
          have HA := Lib.hid (app_mk (x := .slice A m C) ho2 (Nat.le_trans HCH.out.size hch2.size) rfl (by omega))
          have HR2 := Lib.hid (show ∀ r, r < k → ∃ x, xs[r]? = some x ∧ RowV wr x m (cauZ m r) ∧ ∀ b, x.ownBlock = some b → b < wr.heap.size ∧ u6.ownBlock ≠ some b ∧ Far w.heap.size wr b from fun r hr => by
            obtain ⟨x, hx, hv, hoo⟩ := HR.out r hr
            exact ⟨x, hx, hv.ch hch2 (fun _ _ f => f), fun b hb => ⟨Nat.lt_of_lt_of_le (hoo b hb).1 hch2.size, (hoo b hb).2.1, (hoo b hb).2.2.ch hch2 (hoo b hb).1⟩⟩)
          have HX := Lib.hid hX
          have HXB := Lib.hid hxb
          have HO2 := Lib.hid ho2
          have HC2 := Lib.hid (HCH.out.trans hch2)
          have HM2 := Lib.hid (show (k + 1) * 24 ≤ 140737488355328 by omega)
          clear hX hxb ho2 hch2 hrow
          go_wp2_with (at_builtin; refine wpList_append_lies _ rfl _ _ /-t-/37 rfl w.heap.size /-t-/24 i0 (.slice none 0 0) 1 24 Tryz.underlying37 hi hz0 hz1 hz2 rfl (by decide) u6 k xs rfl HA.out.o ⟨wr.heap.size, 0, none⟩ 1 1 [.slice A m C] rfl rfl HA.out.n HA.out.c (by decide) HA.out.m HM2.out HA.out.b (wr.heap.size + 1) HA.out.s ?_; intro g cap w1 h1 h2 h3 h4)
          have hnb : Bld w.heap.size w1 (.slice (some ⟨g, 0, none⟩) (k + 1) cap) (k + 1) (fun _ => m) (cauZ m) := Bld.more _ HO2.out HR2.out HX.out HXB.out h1 h2 h3
          have hnc : Ch (fun _ => False) w w1 := Bld.moreCh _ _ HC2.out HO2.out (Nat.le_refl _) h2
          clear h1 h2 h3 h4
          go_wp2
          go_roundw
          case rel => exact ⟨k + 1, by omega, by go_num, hnc, hnb⟩
          case measure => simp [intOf]; omega
    · have HE := Lib.hid (show k = n by omega)
      obtain ⟨A, C, rfl, _⟩ := id (hbld.mat (by omega))
      have HM := Lib.hid hbld
      clear hbld
      go_wp2
      go_ret2
      exact ⟨_, rfl, by have := HM.out; rw [HE.out] at this; rw [HE.out]; exact this, hch⟩
end Go.Proofs.YtlbdopcchoklhaaGreat

namespace Go.Proofs.YtlbdopcchoklhaaGreat
open Go.RowKit
set_option linter.unusedVariables false
set_option maxRecDepth 100000

theorem rmul_quiet (a b : Int) (a0 : 0 ≤ a) (a1 : a < 256) (b0 : 0 ≤ b) (b1 : b < 256) (w : World) (k : Nat) :
    Calls Tryz.prog 111 #[.int .u8 a, .int .u8 b] (w.drewN k) fun e w' => e = .returned (.int .u8 (Gf.mul a.toNat b.toNat : Int)) ∧ ∃ m, w' = w.drewN m :=
  (rmul_any a b a0 a1 b0 b1 (w.drewN k)).mono fun _ _ ⟨he, hw⟩ => ⟨he, k, hw.symm⟩

set_option maxHeartbeats 3200000 in
set_option maxRecDepth 100000 in
theorem rmulM_new (va vb : Value) (n k : Nat) (L M : Nat → Nat) (X Y : Nat → Nat → Nat) (w : World) (ha : MatV w va n L X) (hb : MatV w vb k M Y) (m1 : mayBF n L = true) (m2 : mayBF k M = true) (hk : L 0 = k) :
    Calls Tryz.prog 71 #[va, vb] w (FreshPost n (M 0) (mulZ k X Y) w) := by
  obtain ⟨n1, n2, l1, l2, hL⟩ := mayB_true m1
  obtain ⟨k1, k2, q1, q2, hM⟩ := mayB_true m2
  obtain ⟨ba, oa, Ca, rfl, _, hra⟩ := ha.some (by omega)
  obtain ⟨bb, ob, Cb, rfl, _, hrb⟩ := hb.some (by omega)
  obtain ⟨A0, D0, ca0, _, _⟩ := hra 0 (by omega)
  obtain ⟨B0, E0, cb0, _, _⟩ := hrb 0 (by omega)
  rw [Nat.add_zero, hk] at ca0
  rw [Nat.add_zero] at cb0
  obtain ⟨m, hm⟩ : ∃ m, m = M 0 := ⟨_, rfl⟩
  rw [← hm] at cb0 q1 q2 ⊢
  have HA := Lib.hid hra
  have HB := Lib.hid hrb
  have HL := Lib.hid (show ∀ r, r < n → L r = k from fun r hr => by rw [hL r hr, hk])
  have HM := Lib.hid (show ∀ r, r < k → M r = m from fun r hr => by rw [hM r hr, hm])
  have CB0 := Lib.hid cb0
  have b1 : ((k : Int) != (k : Int)) = false := by simp
  have npos : 0 < n := by omega
  have kpos : 0 < k := by omega
  obtain ⟨i0, hi, hz0, hz1, hz2⟩ := info_parts Tryz.info24
  obtain ⟨j0, gi, gz0, gz1, gz2⟩ := info_parts Tryz.info5
  have HHA := Lib.hid ha
  have HHB := Lib.hid hb
  clear hra hrb hL hM ha hb hk hm
  go_enter Tryz.func71, Tryz.ntmps71
  go_wp2_with fail
  refine (rmay_anyF _ n L X _ HHA.out).mono ?_
  rintro e w1 ⟨rfl, d1, rfl⟩
  go_wp2_with fail
  refine (rmay_anyF _ k M Y _ (HHB.out.drewN _)).mono ?_
  rintro e w2 ⟨rfl, d2, rfl⟩
  go_wp2
  obtain ⟨ws, hws⟩ : ∃ ws, ws = w.drewN (d1 + d2) := ⟨_, rfl⟩
  have hchs : Ch (fun _ => False) w ws := by rw [hws]; exact (Ch.refl _ _).drewN _
  have HWS := Lib.hid hws
  clear hws
  rw [← HWS.out]
  clear ca0 cb0
  go_loopw [8, 9, 10, 11, 12, 13, 14] (fun v i _ _ _ _ _ wr => ∃ r : Nat, r ≤ n ∧ i = .int .i64 r ∧ Ch (fun _ => False) w wr ∧ Bld w.heap.size wr v r (fun _ => m) (mulZ k X Y)) (fun _ i _ _ _ _ _ _ => n - (intOf i).toNat)
  case atStart => exact ⟨0, Nat.zero_le _, rfl, hchs, Bld.nil _ _ _ _⟩
  case round =>
    obtain ⟨r, hr, rfl, hch, hbld⟩ := hrel
    by_cases hlt : r < n
    · obtain ⟨wo, rfl⟩ : ∃ wo : World, wo = wr := ⟨_, rfl⟩
      obtain ⟨xs, ho, hrows⟩ := hbld
      obtain ⟨Ar, Dr, cr, _, hr3⟩ := HA.out r hlt
      rw [HL.out r hlt] at cr hr3
      obtain ⟨br, or', rfl, hXr⟩ := hr3 kpos
      clear hr3
      have HO := Lib.hid ho
      have HR := Lib.hid hrows
      have HCH := Lib.hid hch
      have HXR := Lib.hid hXr
      have CR := Lib.hid cr
      clear ho hrows hch hXr cr
      go_wp2
      go_loopw [10, 11, 12, 13, 14] (fun v i _ _ _ wi => ∃ c : Nat, c ≤ m ∧ i = .int .i64 c ∧ Ch (fun _ => False) wo wi ∧ wi.ownsRow wo.heap.size /-t-/5 1 v c (bytesL c (mulZ k X Y r))) (fun _ i _ _ _ _ => m - (intOf i).toNat)
      case atStart => exact ⟨0, Nat.zero_le _, rfl, Ch.refl _ _, World.ownsRow_nil _ _ _ _⟩
      case round =>
        obtain ⟨c, hc, rfl, hch2, hrow⟩ := hrel
        have cb1 := (HCH.out.trans hch2).cell CB0.out (fun f => f)
        by_cases hlt2 : c < m
        · obtain ⟨wm, rfl⟩ : ∃ wm : World, wm = wr := ⟨_, rfl⟩
          have HRW := Lib.hid hrow
          have HC2 := Lib.hid hch2
          clear hrow hch2
          go_wp2
          clear cb1
          go_loopw [12, 13, 14] (fun s i _ wi => ∃ j : Nat, j ≤ k ∧ i = .int .i64 j ∧ s = .int .u8 (mulZ j X Y r c : Int) ∧ Hid (∃ d, wi = wm.drewN d)) (fun _ i _ _ => k - (intOf i).toNat)
          case atStart => exact ⟨0, Nat.zero_le _, rfl, rfl, ⟨0, rfl⟩⟩
          case round =>
            obtain ⟨j, hj, rfl, rfl, HD⟩ := hrel
            have hdr : Ch (fun _ => False) wm wr := by obtain ⟨d, e⟩ := HD.out; rw [e]; exact (Ch.refl _ _).drewN d
            by_cases hlt3 : j < k
            · have hall := (HCH.out.trans HC2.out).trans hdr
              obtain ⟨Bj, Ej, cj, _, hj3⟩ := HB.out j hlt3
              rw [HM.out j hlt3] at cj hj3
              obtain ⟨bj, oj, rfl, hYj⟩ := hj3 (by omega)
              clear hj3
              have e1 := hall.cell CR.out (fun f => f)
              have e2 := hall.cell (HXR.out j hlt3).1 (fun f => f)
              have e3 := hall.cell cj (fun f => f)
              have e4 := hall.cell (hYj c hlt2).1 (fun f => f)
              have x1 := (HXR.out j hlt3).2
              have x2 := (hYj c hlt2).2
              have x3 := mulZ_lt j X Y r c
              have x4 := Gf.mul_lt (X r j) (Y j c)
              have p1 : (0 : Int) ≤ (r : Int) := Int.natCast_nonneg _
              have p2 : (r : Int) < (n : Int) := by omega
              have p3 : (0 : Int) ≤ (j : Int) := Int.natCast_nonneg _
              have p4 : (j : Int) < (k : Int) := by omega
              have p5 : (0 : Int) ≤ (c : Int) := Int.natCast_nonneg _
              have p6 : (c : Int) < (m : Int) := by omega
              have HD2 := Lib.hid (show ∀ nq, Hid (∃ d, wr.drewN nq = wm.drewN d) from fun nq => by obtain ⟨d, e⟩ := HD.out; exact ⟨d + nq, by rw [e, World.drewN_drewN]⟩)
              clear hall cj hYj hdr
              go_wp2
              go_quiet ((go_at_call 111; exact rmul_quiet _ _ (by omega) (by omega) (by omega) (by omega) _ _))
              go_wp2_with fail
              refine (radd_any _ _ (by omega) (by omega) (by omega) (by omega) _).mono ?_
              rintro e w5 ⟨rfl, rfl⟩
              go_wp2
              go_roundw
              case rel => exact ⟨j + 1, by omega, by go_num, rfl, HD2.out _⟩
              case measure => simp [intOf]; omega
            · have HE := Lib.hid (show j = k by omega)
              rw [HE.out]
              have hrw := ownsRow_ch HRW.out hdr
              have hc3 := HC2.out.trans hdr
              have HA2 := Lib.hid (app_mk (x := .int .u8 (mulZ k X Y r c : Int)) hrw hc3.size rfl (by omega))
              have HRW2 := Lib.hid hrw
              have HC3 := Lib.hid hc3
              have HM2 := Lib.hid (show (c + 1) * 1 ≤ 140737488355328 by omega)
              clear hrw hc3 hdr
              go_wp2_with (at_builtin; refine wpList_append_lies _ rfl _ _ /-t-/24 rfl wo.heap.size /-t-/5 j0 (.int .u8 0) 1 1 Tryz.underlying24 gi gz0 gz1 gz2 rfl (by decide) _ c (bytesL c (mulZ k X Y r)) rfl HA2.out.o ⟨wr.heap.size, 0, none⟩ 1 1 [.int .u8 (mulZ k X Y r c : Int)] rfl rfl HA2.out.n HA2.out.c (by decide) HA2.out.m HM2.out HA2.out.b (wr.heap.size + 1) HA2.out.s ?_; intro g cap w1 h1 h2 h3 h4)
              have hnext := row_more (z := mulZ k X Y r) HC3.out HRW2.out (Nat.le_refl _) _ _ h1 h2
              clear h1 h2 h3 h4
              go_wp2
              go_roundw
              case rel => exact ⟨c + 1, by omega, by go_num, hnext.2, hnext.1⟩
              case measure => simp [intOf]; omega
        · have HE := Lib.hid (show c = m by omega)
          rw [HE.out] at hrow
          have hX : RowV wr u10 m (mulZ k X Y r) := ownsRow_rowV hrow (by omega) (fun q _ => mulZ_lt _ _ _ _ _)
          obtain ⟨A, C, rfl, _⟩ := id hX
          have hxb := off_new (b2 := 0) HO.out hch2 hrow HCH.out.size
          have ho2 := ownsRow_ch HO.out hch2
          have HAA := Lib.hid (app_mk (x := .slice A m C) ho2 (Nat.le_trans HCH.out.size hch2.size) rfl (by omega))
          have HR2 := Lib.hid (show ∀ q, q < r → ∃ x, xs[q]? = some x ∧ RowV wr x m (mulZ k X Y q) ∧ ∀ b, x.ownBlock = some b → b < wr.heap.size ∧ u8.ownBlock ≠ some b ∧ Far w.heap.size wr b from fun q hq => by
            obtain ⟨x, hx, hv, hoo⟩ := HR.out q hq
            exact ⟨x, hx, hv.ch hch2 (fun _ _ f => f), fun b hb => ⟨Nat.lt_of_lt_of_le (hoo b hb).1 hch2.size, (hoo b hb).2.1, (hoo b hb).2.2.ch hch2 (hoo b hb).1⟩⟩)
          have HX := Lib.hid hX
          have HXB := Lib.hid hxb
          have HO2 := Lib.hid ho2
          have HC2 := Lib.hid (HCH.out.trans hch2)
          have HM2 := Lib.hid (show (r + 1) * 24 ≤ 140737488355328 by omega)
          clear hX hxb ho2 hch2 hrow
          go_wp2_with (at_builtin; refine wpList_append_lies _ rfl _ _ /-t-/37 rfl w.heap.size /-t-/24 i0 (.slice none 0 0) 1 24 Tryz.underlying37 hi hz0 hz1 hz2 rfl (by decide) u8 r xs rfl HAA.out.o ⟨wr.heap.size, 0, none⟩ 1 1 [.slice A m C] rfl rfl HAA.out.n HAA.out.c (by decide) HAA.out.m HM2.out HAA.out.b (wr.heap.size + 1) HAA.out.s ?_; intro g cap w1 h1 h2 h3 h4)
          have hnb : Bld w.heap.size w1 (.slice (some ⟨g, 0, none⟩) (r + 1) cap) (r + 1) (fun _ => m) (mulZ k X Y) := Bld.more _ HO2.out HR2.out HX.out HXB.out h1 h2 h3
          have hnc : Ch (fun _ => False) w w1 := Bld.moreCh _ _ HC2.out HO2.out (Nat.le_refl _) h2
          clear h1 h2 h3 h4
          go_wp2
          go_roundw
          case rel => exact ⟨r + 1, by omega, by go_num, hnc, hnb⟩
          case measure => simp [intOf]; omega
    · have HE := Lib.hid (show r = n by omega)
      obtain ⟨A, C, rfl, _⟩ := id (hbld.mat (by omega))
      have HM := Lib.hid hbld
      clear hbld
      go_wp2
      go_ret2
      exact ⟨_, rfl, by have := HM.out; rw [HE.out] at this; rw [HE.out]; exact this, hch⟩
end Go.Proofs.YtlbdopcchoklhaaGreat

namespace Go.Proofs.YtlbdopcchoklhaaGreat
open Go.RowKit
set_option linter.unusedVariables false
set_option maxRecDepth 100000

theorem Both.flip {n : Nat} {V M : Nat → Nat → Nat} (hM : AllB M) (h : Both n V M) : Both n M V := ⟨hM, h.2.2, h.2.1⟩
theorem append_nil_nilF (w : World) (ty : TypeId) (i : TypeInfo) (hi : Tryz.prog.info? /-t-/5 = some i) (c : Nat) : (Builtin.append_ #[ /-t-/24, /-t-/24] ty #[.slice none 0 0, .slice none 0 c]).run Tryz.prog w = .ok (.slice none 0 0) w := by
  simp [Builtin.append_, run_underlying Tryz.underlying24, sizeOf, typeInfo, hi, Builtin.lenOf, Builtin.firstCells]
theorem app_copyF {w : World} {x : Value} {l : Nat} {z : Nat → Nat} (h : RowV w x l z) (hl : l ≤ 65536) : ∃ v' w', (Builtin.append_ #[ /-t-/24, /-t-/24] /-t-/24 #[.slice none 0 0, x]).run Tryz.prog w = .ok v' w' ∧ w'.ownsRow w.heap.size /-t-/5 1 v' l (bytesL l z) ∧ Ch (fun _ => False) w w' := by
  obtain ⟨A, C, rfl, hb, hc⟩ := h
  obtain ⟨j0, gi, gz0, gz1, gz2⟩ := info_parts Tryz.info5
  cases A with
  | none =>
    have h0 : l = 0 := by
      by_cases q : 0 < l
      · obtain ⟨b, o, e, _⟩ := hc q; cases e
      · omega
    subst h0
    exact ⟨_, _, append_nil_nilF w _ j0 gi C, World.ownsRow_nil _ _ _ _, Ch.refl _ _⟩
  | some ad =>
    have hcells : ∀ j u, (bytesL l z)[j]? = some u → w.cell? (ad.add j) = some u := fun j u hu => by
      by_cases q : j < l
      · obtain ⟨b, o, e, h2⟩ := hc (by omega)
        injection e with e
        subst e
        rw [add_pl, (h2 j q).1]
        unfold bytesL at hu
        simp [q] at hu
        rw [hu]
      · unfold bytesL at hu
        rw [List.getElem?_eq_none (by simp; omega)] at hu
        cases hu
    obtain ⟨v', w', hr, h2, h3, _, h5⟩ := run_append_own_at (P := Tryz.prog) w w.heap.size /-t-/24 /-t-/24 /-t-/5 j0 (.int .u8 0) 1 1 Tryz.underlying24 gi gz0 gz1 gz2 rfl (by decide) (.slice none 0 0) 0 [] (World.ownsRow_nil _ _ _ _) ad l C (bytesL l z) (by unfold bytesL; simp) hcells
      (fun u hu => by unfold bytesL at hu; obtain ⟨c, _, rfl⟩ := List.mem_map.1 hu; rfl) (by unfold maxLen; omega) (by omega) (Nat.le_refl _)
    rw [Nat.zero_add, List.nil_append] at h2
    exact ⟨v', w', hr, h2, (Ch.refl _ w).grown h3 (fun i hi => by cases hi)⟩

theorem wpList_copy_of {ops : Array Oper} {rest : List Oper} {o : Oper} {a : Act} {Q : Exit → Act → World → Prop} (w : World) (hgd : o.guard = none) (s x : Operand)
    (ho : o.op = .call { callee := .builtin .append, args := #[s, x], argTypes := #[ /-t-/24, /-t-/24] }) (hty : o.type = /-t-/24) (sv xv v' : Value) (w' : World) (hs : a.eval s = sv) (hx : a.eval x = xv)
    (hrun : (Builtin.append_ #[ /-t-/24, /-t-/24] /-t-/24 #[sv, xv]).run Tryz.prog w = .ok v' w') (h : wpList Tryz.prog ops Q rest (a.put o.dst v') w') : wpList Tryz.prog ops Q (o :: rest) a w := by
  refine wpList_plain hgd fun _ hK => ?_
  unfold Oper.wp execOp
  simp only [ho, hty, resolve, invoke, builtin, Sem.run_bind, Sem.run_pure, Result.andThen_ok, List.map_toArray, List.map_cons, List.map_nil, hs, hx, hrun]
  exact hK _ _ h
end Go.Proofs.YtlbdopcchoklhaaGreat

namespace Go.Proofs.YtlbdopcchoklhaaGreat
set_option linter.unusedVariables false
set_option maxRecDepth 100000

theorem idx_mono (L : Nat → Nat) {n m : Nat} (h : n ≤ m) : (idx L n).length ≤ (idx L m).length := by
  induction m with
  | zero => have : n = 0 := by omega
            rw [this]; exact Nat.le_refl _
  | succ m ih =>
    by_cases e : n = m + 1
    · rw [e]; exact Nat.le_refl _
    · have := ih (by omega)
      by_cases q : 0 < L m
      · rw [idx_yes q, List.length_append]; omega
      · rw [idx_no q]; exact this
theorem wh_snoc {L : Nat → Nat} {n r : Nat} (h : r < (idx L n).length) : wh L (n + 1) r = wh L n r := by
  unfold wh
  by_cases q : 0 < L n
  · rw [idx_yes q, List.getD, List.getD, List.getElem?_append_left h]
  · rw [idx_no q]
theorem wh_up {L : Nat → Nat} {n m r : Nat} (h : r < (idx L n).length) (hm : n ≤ m) : wh L m r = wh L n r := by
  induction m with
  | zero => have : n = 0 := by omega
            rw [this]
  | succ m ih =>
    by_cases e : n = m + 1
    · rw [e]
    · rw [wh_snoc (Nat.lt_of_lt_of_le h (idx_mono L (by omega))), ih (by omega)]
end Go.Proofs.YtlbdopcchoklhaaGreat

namespace Go.Proofs.YtlbdopcchoklhaaGreat
set_option linter.unusedVariables false
set_option maxRecDepth 100000

theorem lessQ_b {c I : Nat} {Z : Nat → Nat → Nat} (h : AllB Z) : AllB (lessQ c I Z) := fun r k => by
  unfold lessQ; split
  · exact xr_lt8 (h _ _) (Gf.mul_lt _ _)
  · exact h _ _
theorem lessQ_c {c I : Nat} (Z : Nat → Nat → Nat) (k : Nat) : lessQ c I Z c k = Z c k := by unfold lessQ; rw [if_neg (fun q => q.2 rfl)]
theorem rowSum_less {n c I r : Nat} {x : Nat → Nat} {Z : Nat → Nat → Nat} (hb : AllB Z) (hx : ∀ j, x j < 256) (h : r < I ∧ r ≠ c) : rowSum n (lessQ c I Z) x r = xr (rowSum n Z x r) (Gf.mul (Gf.quo (Z r c) (Z c c)) (rowSum n Z x c)) := by
  unfold rowSum
  rw [mul_xsum (Gf.quo_lt _ _) (fun j _ => Gf.mul_lt _ _), ← xsum_add]
  refine xsum_congr fun j _ => ?_
  unfold lessQ
  rw [if_pos h, xr_mul (hx j) (hb _ _) (Gf.mul_lt _ _), Gf.mul_assoc (Gf.quo_lt _ _) (hb _ _) (hx j)]
theorem rowSum_same {n c I r : Nat} {x : Nat → Nat} {Z : Nat → Nat → Nat} (h : ¬ (r < I ∧ r ≠ c)) : rowSum n (lessQ c I Z) x r = rowSum n Z x r := by
  unfold rowSum
  exact xsum_congr fun j _ => by unfold lessQ; rw [if_neg h]
theorem Elim.less {n c : Nat} {x : Nat → Nat} {Z : Nat → Nat → Nat} (hx : ∀ j, x j < 256) (h : Elim n c x Z) (hc : c < n) (h0 : 0 < Z c c) : Elim n (c + 1) x (lessQ c n Z) := by
  refine ⟨lessQ_b h.b, fun r hr => ?_, fun y hy hz => h.sure y hy fun r hr => ?_, fun r k hr hk hne => ?_, fun k hk => ?_⟩
  · by_cases q : r < n ∧ r ≠ c
    · rw [rowSum_less h.b hx q, h.sol r hr, h.sol c hc]
      unfold lessQ; rw [if_pos q]
    · rw [rowSum_same q, h.sol r hr]
      unfold lessQ; rw [if_neg q]
  · have hzc : rowSum n Z y c = 0 := by
      have := hz c hc
      rw [show xsum n (fun j => Gf.mul (lessQ c n Z c j) (y j)) = rowSum n Z y c from xsum_congr fun j _ => by rw [lessQ_c]] at this
      exact this
    have hzr : rowSum n (lessQ c n Z) y r = 0 := hz r hr
    by_cases q : r < n ∧ r ≠ c
    · rw [rowSum_less h.b hy q, hzc, Gf.mul_zero, xr_z] at hzr
      exact hzr
    · rw [rowSum_same q] at hzr; exact hzr
  · unfold lessQ
    by_cases e : k = c
    · subst e
      rw [if_pos ⟨hr, hne⟩, Gf.mul_quo (h.b _ _) (h.b _ _) h0, xr_self]
    · have hkc : Z c k = 0 := h.off c k hc (by omega) (by omega)
      rw [hkc, Gf.mul_zero, xr_z, ite_self]
      exact h.off r k hr (by omega) hne
  · unfold lessQ
    by_cases e : k = c
    · subst e; rw [if_neg (fun q => q.2 rfl)]; exact h0
    · have hkc : Z c k = 0 := h.off c k hc (by omega) (by omega)
      rw [hkc, Gf.mul_zero, xr_z, ite_self]
      exact h.diag k (by omega)
/-- There is a pivot. -/
theorem Elim.pivot {n c : Nat} {x : Nat → Nat} {Z : Nat → Nat → Nat} (h : Elim n c x Z) (hc : c < n) (h0 : ∀ r, c ≤ r → r < n → Z r c = 0) : False := by
  obtain ⟨y, hy⟩ : ∃ y : Nat → Nat, y = fun j => if j < c then Gf.quo (Z j c) (Z j j) else if j = c then 1 else 0 := ⟨_, rfl⟩
  have hb : ∀ j, y j < 256 := fun j => by
    rw [hy]; show (if j < c then Gf.quo (Z j c) (Z j j) else if j = c then 1 else 0) < 256
    split
    · exact Gf.quo_lt _ _
    · split <;> omega
  have y1 : y c = 1 := by rw [hy]; show (if c < c then Gf.quo (Z c c) (Z c c) else if c = c then 1 else 0) = 1; rw [if_neg (Nat.lt_irrefl _), if_pos rfl]
  have yl : ∀ j, j < c → y j = Gf.quo (Z j c) (Z j j) := fun j hj => by rw [hy]; exact if_pos hj
  have yg : ∀ j, c < j → y j = 0 := fun j hj => by rw [hy]; show (if j < c then Gf.quo (Z j c) (Z j j) else if j = c then 1 else 0) = 0; rw [if_neg (by omega), if_neg (by omega)]
  have := h.sure y hb (fun r hr => ?_) c hc
  · omega
  · by_cases hrc : r < c
    · have e : xsum n (fun j => Gf.mul (Z r j) (y j)) = xsum n (fun j => xr (if j = r then Z r c else 0) (if j = c then Z r c else 0)) := xsum_congr fun j hj => by
        by_cases q1 : j = r
        · subst q1
          rw [if_pos rfl, if_neg (by omega), xr_z, yl j hrc, Gf.mul_comm, Gf.mul_quo (h.b _ _) (h.b _ _) (h.diag j hrc)]
        · rw [if_neg q1, z_xr]
          by_cases q2 : j = c
          · subst q2; rw [if_pos rfl, y1, Gf.mul_one (h.b _ _)]
          · rw [if_neg q2]
            by_cases q3 : j < c
            · rw [h.off r j hr q3 (fun e => q1 e.symm), Gf.zero_mul]
            · rw [yg j (by omega), Gf.mul_zero]
      rw [e, xsum_add, xsum_single (i := r) _ hr (fun j _ hj => if_neg hj), xsum_single (i := c) _ hc (fun j _ hj => if_neg hj), if_pos rfl, if_pos rfl, xr_self]
    · refine xsum_none fun j hj => ?_
      by_cases q : j < c
      · rw [h.off r j hr q (by omega), Gf.zero_mul]
      · by_cases q2 : j = c
        · subst q2; rw [h0 r (by omega) hr, Gf.zero_mul]
        · rw [yg j (by omega), Gf.mul_zero]
end Go.Proofs.YtlbdopcchoklhaaGreat

namespace Go.Proofs.YtlbdopcchoklhaaGreat
open Go.RowKit
set_option linter.unusedVariables false
set_option maxRecDepth 100000

set_option maxHeartbeats 1600000 in
theorem rrows_new (k m : Nat) (k1 : 1 ≤ k) (hkm : k + m ≤ 64) (w : World) : Calls Tryz.prog 70 #[.int .i64 (k : Int), .int .i64 (m : Int)] w (FreshPost (k + m) k (allZ k) w) := by
  have t1 : decide ((k : Int) < 1) = false := by simp; omega
  have t2 : decide ((64 : Int) < (k : Int)) = false := by simp; omega
  have t3 : decide ((m : Int) < 0) = false := by simp
  have t4 : decide ((64 : Int) < (m : Int)) = false := by simp; omega
  have t6 : decide ((64 : Int) < (k : Int) + (m : Int)) = false := by simp; omega
  by_cases h0 : m = 0
  · have t5 : decide (0 < m) = false := by simp [h0]
    have HE := Lib.hid h0
    clear h0
    go_enter Tryz.func70, Tryz.ntmps70
    go_wp2_with fail
    refine (rone_new _ (by omega) (by omega) _).mono ?_
    rintro e w1 ⟨v, rfl, hB, hch⟩
    rw [Int.toNat_natCast] at hB
    have HB := Lib.hid hB
    clear hB
    go_wp2
    go_ret2
    refine ⟨_, rfl, ?_, hch⟩
    rw [HE.out]
    exact BldL.congr HB.out fun r c hr _ => by unfold allZ; rw [if_pos (show r < k from hr)]
  · have t5 : decide ((0 : Int) < (m : Int)) = true := by simp; omega
    have m1 : 1 ≤ m := by omega
    clear h0
    go_enter Tryz.func70, Tryz.ntmps70
    go_wp2_with fail
    refine (rone_new _ (by omega) (by omega) _).mono ?_
    rintro e w1 ⟨v, rfl, hB, hch⟩
    rw [Int.toNat_natCast] at hB
    have HB := Lib.hid hB
    have HC := Lib.hid hch
    clear hB hch
    go_wp2_with fail
    refine (rcauchy_new _ _ (by omega) (by omega) (by omega) (by omega) _).mono ?_
    rintro e w2 ⟨u, rfl, hB2, hch2⟩
    rw [Int.toNat_natCast, Int.toNat_natCast] at hB2
    obtain ⟨v', w', hj⟩ := bld_join (BldL.ch HB.out hch2) hB2 (Nat.le_trans HC.out.size hch2.size) (by omega) (fun q hq => (BldL.block HB.out hq).2) HC.out.size
    have hchw := hj.ch (HC.out.trans hch2) (fun q hq => (BldL.block HB.out hq).1)
    have HJ := Lib.hid hj.1
    have HBJ := Lib.hid hj.2.1
    have HCW := Lib.hid hchw
    clear hB2 hch2 hj hchw
    go_wp2_with (at_builtin; refine wpList_rows_of _ rfl (.tmp 43) (.tmp 44) rfl rfl v u v' w' rfl rfl HJ.out ?_)
    go_ret2
    exact ⟨_, rfl, rows_bld HBJ.out, HCW.out⟩
set_option maxHeartbeats 1600000 in
theorem rencode_new (va : Value) (n m : Nat) (L : Nat → Nat) (X : Nat → Nat → Nat) (w : World) (ha : MatV w va n L X) (m1 : mayBF n L = true) (hm : n + m ≤ 64) : Calls Tryz.prog 40 #[va, .int .i64 (m : Int)] w (FreshPost m (L 0) (mulZ n (cauZ n) X) w) := by
  obtain ⟨n1, n2, l1, l2, hL⟩ := mayB_true m1
  obtain ⟨A, Ca, rfl, na, _⟩ := id ha
  have HA := Lib.hid ha
  have M1 := Lib.hid m1
  clear ha hL m1
  by_cases h0 : m = 0
  · have t5 : ((m : Int) == 0) = true := by simp [h0]
    have HE := Lib.hid h0
    clear h0
    go_enter Tryz.func40, Tryz.ntmps40
    go_wp2_with fail
    refine (rmay_anyF _ n L X _ HA.out).mono ?_
    rintro e w1 ⟨rfl, d1, rfl⟩
    rw [M1.out]
    go_wp2_with fail
    refine (rrows_new n m n1 hm _).mono ?_
    rintro e w1 ⟨v, rfl, hB, hch⟩
    clear hB
    go_wp2
    go_ret2
    refine ⟨_, rfl, ?_, ((Ch.refl _ w).drewN _).trans hch⟩
    rw [HE.out]
    exact Bld.nil _ _ _ _
  · have t5 : ((m : Int) == 0) = false := by simp [h0]
    have mp : 1 ≤ m := by omega
    clear h0
    go_enter Tryz.func40, Tryz.ntmps40
    go_wp2_with fail
    refine (rmay_anyF _ n L X _ HA.out).mono ?_
    rintro e w1 ⟨rfl, d1, rfl⟩
    rw [M1.out]
    go_wp2_with fail
    refine (rrows_new n m n1 hm _).mono ?_
    rintro e w1 ⟨v, rfl, hB, hch⟩
    have hM := hB.mat (by omega)
    obtain ⟨b, o, C, rfl, _, _⟩ := hM.some (by omega)
    obtain ⟨A', C', e', hc1, _⟩ := id hM
    obtain rfl : C = C' := by injection e'
    have hT := mat_tail hM (show n < n + m by omega)
    rw [Nat.add_sub_cancel_left] at hT
    have HT := Lib.hid hT
    have HC := Lib.hid (((Ch.refl _ w).drewN _).trans hch)
    have hcap := hc1.2
    have s1 : n + m - n = m := Nat.add_sub_cancel_left n m
    have MR := Lib.hid (may_const mp (by omega : m ≤ 64) n1 (by omega : n ≤ 4096))
    clear hM hB hT hch e' hc1
    go_wp2_with fail
    refine (rmulM_new _ _ m n _ L _ X _ HT.out (HA.out.gr HC.out) MR.out M1.out rfl).mono ?_
    rintro e w2 ⟨u, rfl, hB2, hch2⟩
    have HB2 := Lib.hid hB2
    have HC2 := Lib.hid hch2
    clear hB2 hch2
    go_wp2
    go_ret2
    exact ⟨_, rfl, Bld.base (BldL.congr HB2.out fun r c _ _ => enc_congr (m := m) r c) HC.out.size, HC.out.trans HC2.out⟩
end Go.Proofs.YtlbdopcchoklhaaGreat

namespace Go.Proofs.YtlbdopcchoklhaaGreat
open Go.RowKit
set_option linter.unusedVariables false
set_option maxRecDepth 100000

theorem owns_brow {w : World} {base g m cap : Nat} {z : Nat → Nat} (h : w.ownsRow base /-t-/5 1 (.slice (some ⟨g, 0, none⟩) m cap) m (bytesL m z)) (hz : ∀ c, c < m → z c < 256) : BRow w g m z := by
  rcases h.2 with ⟨hn, _⟩ | ⟨g', cap', cur, he, hb, hgg, hcap, hm, hs, ht⟩
  · cases hn
  · injection he with he1 he2 he3
    injection he1 with he1
    injection he1 with he4
    subst he4
    refine ⟨cur, _, hgg, fun c hc => ⟨?_, hz c hc⟩⟩
    have := congrArg (fun l : List Value => l[c]?) ht
    simp only [Nat.mul_one, List.getElem?_take, if_pos hc, Array.getElem?_toList] at this
    rw [this]; unfold bytesL; simp [hc]
theorem GridL.grid {base : Nat} {w : World} {g n cap m : Nat} {B K : Nat → Nat} {Z : Nat → Nat → Nat} (h : GridL base w (.slice (some ⟨g, 0, none⟩) n cap) n m B K Z) : Grid base w g n m B K Z := by
  refine ⟨?_, h.row, h.inj, fun r hr e => h.off r hr (by rw [e]; rfl), (World.ownsRow.lt h.own g rfl).1, h.lo⟩
  rcases h.own.2 with ⟨hn, _⟩ | ⟨g', cap', cur, he, hb, hgg, hcap, hm, hs, ht⟩
  · cases hn
  · injection he with he1 he2 he3
    injection he1 with he1
    injection he1 with he4
    subst he4
    refine ⟨cur, _, hgg, fun c hc => ?_⟩
    have := congrArg (fun l : List Value => l[c]?) ht
    simp only [Nat.mul_one, List.getElem?_take, if_pos hc, Array.getElem?_toList] at this
    rw [this]; exact valsL_get hc
theorem Grid.topAt {base : Nat} {w : World} {g n m : Nat} {B K : Nat → Nat} {Z : Nat → Nat → Nat} (h : Grid base w g n m B K Z) {r : Nat} (hr : r < n) : w.cell? ⟨g, r, none⟩ = some (.slice (some ⟨B r, 0, none⟩) m (K r)) ∧ w.frozen? ⟨g, r, none⟩ = false := by
  obtain ⟨cs, t, hb, hx⟩ := h.top
  exact ⟨by simp [World.cell?, hb, hx r hr, rowF], by simp [World.frozen?, hb]⟩
theorem Grid.mid {base : Nat} {w : World} {g n m : Nat} {B K : Nat → Nat} {Z : Nat → Nat → Nat} (h : Grid base w g n m B K Z) {c p : Nat} (hc : c < n) (hp : p < n) : (w.setCell ⟨g, c, none⟩ (.slice (some ⟨B p, 0, none⟩) m (K p))).cell? ⟨g, p, none⟩ = some (.slice (some ⟨B p, 0, none⟩) m (K p)) ∧ (w.setCell ⟨g, c, none⟩ (.slice (some ⟨B p, 0, none⟩) m (K p))).frozen? ⟨g, p, none⟩ = false := by
  obtain ⟨cs, t, hb, hx⟩ := h.top
  have hb2 := heap_set (o := c) (v := .slice (some ⟨B p, 0, none⟩) m (K p)) hb
  have hlc := (Array.getElem?_eq_some_iff.1 (hx c hc)).1
  have hk : (cs.setIfInBounds c (.slice (some ⟨B p, 0, none⟩) m (K p)))[p]? = some (.slice (some ⟨B p, 0, none⟩) m (K p)) := by
    rw [Array.getElem?_setIfInBounds]
    by_cases e : c = p
    · rw [if_pos e, if_pos hlc]
    · rw [if_neg e]; exact hx p hp
  obtain ⟨cs2, hcs2⟩ : ∃ cs2, cs2 = cs.setIfInBounds c (.slice (some ⟨B p, 0, none⟩) m (K p)) := ⟨_, rfl⟩
  rw [← hcs2] at hb2 hk
  exact ⟨by simp [World.cell?, hb2, hk], by simp [World.frozen?, hb2]⟩
/-- The exchange, as the walk needs it. -/
theorem Grid.swapped {w wr : World} {g n m c p : Nat} {B K : Nat → Nat} {Z : Nat → Nat → Nat} {x : Nat → Nat} (h : Grid w.heap.size wr g n m B K Z) (he : Elim n c x Z) (hch : Ch (fun _ => False) w wr) (hc : c < n) (hcp : c ≤ p) (hp : p < n) (h0 : 0 < Z p c) :
    ∃ B2 K2 Z1, Grid w.heap.size ((wr.setCell ⟨g, c, none⟩ (.slice (some ⟨B p, 0, none⟩) m (K p))).setCell ⟨g, p, none⟩ (.slice (some ⟨B c, 0, none⟩) m (K c))) g n m B2 K2 Z1 ∧ Elim n c x Z1 ∧ 0 < Z1 c c ∧ Ch (fun _ => False) w ((wr.setCell ⟨g, c, none⟩ (.slice (some ⟨B p, 0, none⟩) m (K p))).setCell ⟨g, p, none⟩ (.slice (some ⟨B c, 0, none⟩) m (K c))) :=
  ⟨_, _, _, h.swap hc hp, he.swap hc hcp hp, by unfold swapZ sw; rw [if_pos rfl]; exact h0, (hch.setCell (p := ⟨g, c, none⟩) (Or.inr h.lo.1) _).setCell (p := ⟨g, p, none⟩) (Or.inr h.lo.1) _⟩
theorem partQ_zero (c i q : Nat) (Z : Nat → Nat → Nat) (r j : Nat) : partQ c i q 0 Z r j = Z r j := by unfold partQ; rw [if_neg (fun h => Nat.not_lt_zero _ h.2)]
theorem partQ_next {c i q k : Nat} {Z : Nat → Nat → Nat} (hc : c ≠ i) (r j : Nat) : updZ (partQ c i q k Z) i k (xr (Z i k) (Gf.mul q (Z c k))) r j = partQ c i q (k + 1) Z r j := by
  unfold updZ partQ
  by_cases e : r = i
  · subst e
    by_cases e2 : j = k
    · subst e2; rw [if_pos ⟨rfl, rfl⟩, if_pos ⟨rfl, by omega⟩]
    · rw [if_neg (fun h => e2 h.2)]
      by_cases e3 : j < k
      · rw [if_pos ⟨rfl, e3⟩, if_pos ⟨rfl, by omega⟩]
      · rw [if_neg (fun h => e3 h.2), if_neg (fun h => by omega)]
  · rw [if_neg (fun h => e h.1), if_neg (fun h => e h.1), if_neg (fun h => e h.1)]
theorem partQ_c {c i q k : Nat} {Z : Nat → Nat → Nat} (hc : c ≠ i) (j : Nat) : partQ c i q k Z c j = Z c j := by unfold partQ; rw [if_neg (fun h => hc h.1)]
theorem partQ_i {c i q k : Nat} {Z : Nat → Nat → Nat} : partQ c i q k Z i k = Z i k := by unfold partQ; rw [if_neg (fun h => Nat.lt_irrefl _ h.2)]
theorem partQ_done {c i m : Nat} {Z : Nat → Nat → Nat} (hc : i ≠ c) (r j : Nat) (hj : j < m) : partQ c i (Gf.quo (Z i c) (Z c c)) m (lessQ c i Z) r j = lessQ c (i + 1) Z r j := by
  unfold partQ
  by_cases e : r = i
  · subst e
    rw [if_pos ⟨rfl, hj⟩, lessQ_c]
    unfold lessQ
    rw [if_neg (fun h => Nat.lt_irrefl _ h.1), if_pos ⟨by omega, hc⟩]
  · rw [if_neg (fun h => e h.1)]
    unfold lessQ
    by_cases q : r < i ∧ r ≠ c
    · rw [if_pos q, if_pos ⟨by omega, q.2⟩]
    · rw [if_neg q, if_neg (fun h => q ⟨by omega, h.2⟩)]
theorem lessQ_skip {c : Nat} {Z : Nat → Nat → Nat} (r j : Nat) : lessQ c c Z r j = lessQ c (c + 1) Z r j := by
  unfold lessQ
  by_cases q : r < c ∧ r ≠ c
  · rw [if_pos q, if_pos ⟨by omega, q.2⟩]
  · rw [if_neg q, if_neg (fun h => q ⟨by omega, h.2⟩)]
end Go.Proofs.YtlbdopcchoklhaaGreat

namespace Go.Proofs.YtlbdopcchoklhaaGreat
open Go.RowKit
set_option linter.unusedVariables false
set_option maxRecDepth 100000

theorem radd_still' (a b : Nat) (ha : a < 256) (hb : b < 256) (w : World) : Calls Tryz.prog 112 #[.int .u8 (a : Int), .int .u8 (b : Int)] w fun e w' => e = .returned (.int .u8 (xr a b : Int)) ∧ w' = w :=
  (radd_any (a : Int) (b : Int) (by omega) (by omega) (by omega) (by omega) w).mono fun _ _ ⟨he, hw⟩ => ⟨by rw [he]; simp, hw.symm⟩
theorem rdiv_quiet (a b : Nat) (ha : a < 256) (hb : b < 256) (b0 : 0 < b) (w : World) (k : Nat) : Calls Tryz.prog 119 #[.int .u8 (a : Int), .int .u8 (b : Int)] (w.drewN k) fun e w' => e = .returned (.tuple #[.int .u8 (Gf.quo a b : Int), .int .i64 0]) ∧ ∃ m, w' = w.drewN m :=
  (rdiv_any (a : Int) (b : Int) (by omega) (by omega) (by omega) (by omega) (w.drewN k)).mono fun _ _ ⟨he, hw⟩ => ⟨by rw [he, Int.toNat_natCast, Int.toNat_natCast, qv_pos (by omega), ze_pos (by omega)], k, hw.symm⟩
theorem bytes_aug (n : Nat) (R : Nat → Nat → Nat) (y : Nat → Nat) (i : Nat) : bytesL n (R i) ++ [Value.int .u8 (y i : Int)] = bytesL (n + 1) (augZ n R y i) := by
  rw [bytesL_snoc]
  congr 1
  · unfold bytesL
    exact List.map_congr_left fun c hc => by unfold augZ; rw [if_pos (List.mem_range.1 hc)]
  · unfold augZ; rw [if_neg (Nat.lt_irrefl _)]
theorem form_len' {w : World} {base : Nat} {e : TypeId} {v : Value} {n : Nat} {xs : List Value} (h : w.ownsRow base e 1 v n xs) : ∃ A C, v = .slice A n C ∧ n ≤ C := by
  rcases h.2 with ⟨rfl, rfl⟩ | ⟨g, cap, cur, rfl, _, _, hc, _⟩
  · exact ⟨none, 0, rfl, Nat.le_refl _⟩
  · exact ⟨_, _, rfl, hc⟩
theorem aug_step {wr w3 w4 : World} {v : Value} {n i gb capb : Nat} {R : Nat → Nat → Nat} {y : Nat → Nat} (hown : w3.ownsRow wr.heap.size /-t-/5 1 v n (bytesL n (R i))) (hc2 : Ch (fun _ => False) wr w3) (hR : AllB R) (hy : ∀ i, y i < 256) (c : Array Value) (t : TypeId)
    (h1 : w4.ownsRow wr.heap.size /-t-/5 1 (.slice (some ⟨gb, 0, none⟩) (n + 1) capb) (n + 1) (bytesL n (R i) ++ [Value.int .u8 (y i : Int)])) (h2 : (w3.alloc (.cells c t)).grownBy w4 v.ownBlock) : AugAt wr w4 gb n capb (augZ n R y i) := by
  rw [bytes_aug] at h1
  obtain ⟨_, _, e, hcap⟩ := form_len' h1
  injection e with e1 e2 e3
  exact ⟨(hc2.alloc c t).grown h2 (fun q hq => Or.inr (World.ownsRow.lt hown q hq).1), owns_brow h1 (fun c _ => by unfold augZ; split; exact hR _ _; exact hy _), (World.ownsRow.lt h1 gb rfl).1, by omega⟩
set_option maxHeartbeats 6400000 in
set_option maxRecDepth 100000 in
theorem solved_any (vr : Value) (by' oy n Cy : Nat) (R : Nat → Nat → Nat) (y x : Nat → Nat) (w : World) (n1 : 1 ≤ n) (n64 : n ≤ 64) (hr : MatV w vr n (fun _ => n) R) (hR : AllB R) (hs : Sure n R) (hy : ∀ i, i < n → w.cell? ⟨by', oy + i, none⟩ = some (.int .u8 (y i : Int))) (hyb : ∀ i, y i < 256) (hx : ∀ j, x j < 256) (hsol : ∀ r, r < n → rowSum n R x r = y r) :
    Calls Tryz.prog 82 #[vr, .slice (some ⟨by', oy, none⟩) n Cy] w (SolvedPost n x w) := by
  obtain ⟨A', C', rfl, hAC, hA3⟩ := id hr
  obtain ⟨b, o, rfl, hrows⟩ := hA3 (by omega)
  have HR := Lib.hid hrows
  have HRB := Lib.hid hR
  have HY := Lib.hid hy
  have HYB := Lib.hid hyb
  have HX := Lib.hid hx
  have HEL := Lib.hid (Elim.start hR hyb hs hsol)
  obtain ⟨i0, hi, hz0, hz1, hz2⟩ := info_parts Tryz.info24
  obtain ⟨j0, gi, gz0, gz1, gz2⟩ := info_parts Tryz.info5
  clear hA3 hrows hr hR hs hy hyb hx hsol hAC
  go_enter Tryz.func82, Tryz.ntmps82
  go_wp2
  go_loopw [6, 7, 8] (fun v t _ wr => ∃ i : Nat, i ≤ n ∧ t = .int .i64 i ∧ Hid (Ch (fun _ => False) w wr ∧ ∃ B K, GridL w.heap.size wr v i (n + 1) B K (augZ n R y))) (fun _ t _ _ => n - (intOf t).toNat)
  case atStart => exact ⟨0, Nat.zero_le _, rfl, Lib.hid ⟨Ch.refl _ _, fun _ => 0, fun _ => 0, World.ownsRow_nil _ _ _ _, fun r hr => absurd hr (Nat.not_lt_zero r), fun r s hr => absurd hr (Nat.not_lt_zero r), fun r hr => absurd hr (Nat.not_lt_zero r), fun r hr => absurd hr (Nat.not_lt_zero r), fun r hr => absurd hr (Nat.not_lt_zero r)⟩⟩
  case round =>
    obtain ⟨i, hin, rfl, HP⟩ := hrel
    by_cases hlt : i < n
    · obtain ⟨xv, cx, hxr⟩ := HR.out i hlt
      obtain ⟨hch, B, K, hgl⟩ := HP.out
      have c1 := hch.cell cx (fun f => f)
      have hxw := hxr.ch hch (fun _ _ f => f)
      obtain ⟨Ax, Cx, rfl, hcx, _⟩ := id hxw
      obtain ⟨v1, w3, hrun, hown, hc2⟩ := app_copyF hxw (by omega)
      have cy := (hch.trans hc2).cell (HY.out i hlt) (fun f => f)
      obtain ⟨A1, C1, rfl, _⟩ := form_len' hown
      have HAP := Lib.hid (app_mk (x := .int .u8 (y i : Int)) hown hc2.size rfl (by omega))
      have HM1 := Lib.hid (show (n + 1) * 1 ≤ 140737488355328 by omega)
      have HM2 := Lib.hid (show (i + 1) * 24 ≤ 140737488355328 by omega)
      have HRUN := Lib.hid hrun
      have HOW := Lib.hid hown
      have HC2 := Lib.hid hc2
      have HGL := Lib.hid hgl
      have HCH := Lib.hid hch
      clear hrun hown hc2 hgl hch hxw cx hxr HP
      go_wp2_with (first | (at_builtin; refine wpList_copy_of _ rfl (.const (.slice none 0 0)) (.tmp 31) rfl rfl (.slice none 0 0) (.slice Ax n Cx) (.slice A1 n C1) w3 rfl rfl HRUN.out ?_) | (at_builtin; refine wpList_append_lies _ rfl (.tmp 34) (.tmp 39) /-t-/24 rfl wr.heap.size /-t-/5 j0 (.int .u8 0) 1 1 Tryz.underlying24 gi gz0 gz1 gz2 rfl (by decide) (.slice A1 n C1) n (bytesL n (R i)) rfl HAP.out.o ⟨w3.heap.size, 0, none⟩ 1 1 [.int .u8 (y i : Int)] rfl rfl HAP.out.n HAP.out.c (by decide) HAP.out.m HM1.out HAP.out.b (w3.heap.size + 1) HAP.out.s ?_; intro gb capb w4 h1 h2 h3 h4; have HAU := Lib.hid (aug_step HOW.out HC2.out HRB.out HYB.out _ _ h1 h2); have HAP2 := Lib.hid (app_mk (x := .slice (some ⟨gb, 0, none⟩) (n + 1) capb) (ownsRow_ch HGL.out.own HAU.out.ch) (Nat.le_trans HCH.out.size HAU.out.ch.size) rfl (by omega)); clear h1 h2 h3 h4) | (at_builtin; refine wpList_append_lies _ rfl (.tmp 33) (.tmp 41) /-t-/37 rfl w.heap.size /-t-/24 i0 (.slice none 0 0) 1 24 Tryz.underlying37 hi hz0 hz1 hz2 rfl (by decide) u6 i (valsL i (rowF (n + 1) B K)) rfl HAP2.out.o ⟨w4.heap.size, 0, none⟩ 1 1 [.slice (some ⟨gb, 0, none⟩) (n + 1) capb] rfl rfl HAP2.out.n HAP2.out.c (by decide) HAP2.out.m HM2.out HAP2.out.b (w4.heap.size + 1) HAP2.out.s ?_; intro g cap w5 k1 k2 k3 k4))
      have HN := Lib.hid (show Ch (fun _ => False) w w5 ∧ ∃ B K, GridL w.heap.size w5 (.slice (some ⟨g, 0, none⟩) (i + 1) cap) (i + 1) (n + 1) B K (augZ n R y) from ⟨((HCH.out.trans HAU.out.ch).alloc _ _).grown k2 (fun q hq => Or.inr (World.ownsRow.lt HGL.out.own q hq).1), _, _, HGL.out.more HAU.out.lo HCH.out.size HAU.out.ch HAU.out.row HAU.out.cap k1 _ k2 k3⟩)
      clear k1 k2 k3 k4
      go_wp2
      go_roundw
      case rel => exact ⟨i + 1, by omega, by go_num, HN⟩
      case measure => simp [intOf]; omega
    · have HE := Lib.hid (show i = n by omega)
      obtain ⟨hch, B, K, hgl⟩ := HP.out
      rw [HE.out] at hgl
      obtain ⟨g, cap, rfl, _, _⟩ := World.ownsRow.form hgl.own (by omega)
      have H0 := Lib.hid (show GridAt w wr g n 0 x from ⟨B, K, _, hgl.grid, HEL.out, hch⟩)
      clear hch hgl HP HR HY
      go_wp2
      go_loopw [9, 10, 11, 12, 13, 14, 15, 16] (fun t _ _ _ _ _ _ _ wr => ∃ c : Nat, c ≤ n ∧ t = .int .i64 c ∧ Hid (GridAt w wr g n c x)) (fun t _ _ _ _ _ _ _ _ => n - (intOf t).toNat)
      case atStart => exact ⟨0, Nat.zero_le _, rfl, H0⟩
      case round =>
        obtain ⟨c, hcn, rfl, HG⟩ := hrel
        by_cases hlt : c < n
        · obtain ⟨B, K, Z, hg, hel, hch⟩ := HG.out
          have HGR := Lib.hid hg
          have HEZ := Lib.hid hel
          have HCH := Lib.hid hch
          clear hg hel hch HG
          go_wp2
          go_loop [10] (fun t => ∃ p : Nat, c ≤ p ∧ p < n ∧ t = .int .i64 p ∧ Hid (∀ r, c ≤ r → r < p → Z r c = 0)) (fun t => n - (intOf t).toNat)
          case atStart => exact ⟨c, Nat.le_refl _, hlt, rfl, Lib.hid fun r h1 h2 => by omega⟩
          case round =>
            obtain ⟨p, hcp, hpn, rfl, HZ⟩ := hrel
            obtain ⟨tp, fp⟩ := HGR.out.topAt hpn
            obtain ⟨zp, _, zp8⟩ := HGR.out.at hpn (show c < n + 1 by omega)
            have ic1 : c < n + 1 := by omega
            have ic2 : (c : Int) < (n : Int) + 1 := by omega
            by_cases hA : p < n - 1 ∧ Z p c = 0
            · obtain ⟨hp1, hz⟩ := hA
              have ta : decide ((p : Int) < (n : Int) - 1) = true := by simp; omega
              rw [hz] at zp
              have HN := Lib.hid (show ∀ r, c ≤ r → r < p + 1 → Z r c = 0 from fun r h1 h2 => by
                by_cases e : r = p
                · rw [e]; exact hz
                · exact HZ.out r h1 (by omega))
              clear hz
              go_wp2
              go_round
              case rel => exact ⟨p + 1, by omega, by omega, by go_num, HN⟩
              case measure => simp [intOf]; omega
            · have hpiv : 0 < Z p c := by
                by_cases q : Z p c = 0
                · exact (HEZ.out.pivot hlt fun r h1 h2 => by
                    by_cases e : r < p
                    · exact HZ.out r h1 e
                    · have : r = p := by
                        by_cases e2 : p < n - 1
                        · exact absurd ⟨e2, q⟩ hA
                        · omega
                      rw [this]; exact q).elim
                · omega
              have hex : (decide ((p : Int) < (n : Int) - 1) = true ∧ ((Z p c : Int) == 0) = false) ∨ decide ((p : Int) < (n : Int) - 1) = false := by
                by_cases e2 : p < n - 1
                · exact Or.inl ⟨by simp; omega, by rw [beq_eq_false_iff_ne]; omega⟩
                · exact Or.inr (by simp; omega)
              obtain ⟨tc, fc⟩ := HGR.out.topAt hlt
              obtain ⟨tm, fm⟩ := HGR.out.mid hlt hpn
              obtain ⟨B2, K2, Z1, hg2, he2, hz2, hch2⟩ := HGR.out.swapped HEZ.out HCH.out hlt hcp hpn hpiv
              have HG2 := Lib.hid hg2
              have HE2 := Lib.hid he2
              have HC2 := Lib.hid hch2
              have HZ2 := Lib.hid hz2
              clear hg2 he2 hch2 hz2 hA
              rcases hex with ⟨ta, tb⟩ | ta
              all_goals
                go_upto_region 17 with (fail)
                obtain ⟨w2, hw2⟩ : ∃ w2, w2 = (wr.setCell ⟨g, c, none⟩ (.slice (some ⟨B p, 0, none⟩) (n + 1) (K p))).setCell ⟨g, p, none⟩ (.slice (some ⟨B c, 0, none⟩) (n + 1) (K c)) := ⟨_, rfl⟩
                rw [← hw2]
                rw [← hw2] at HG2 HC2
                clear hw2 tc fc tm fm tp fp zp
                clear HGR HEZ HCH HZ
                go_wp2
                go_loopw [12, 13, 14, 15, 16] (fun t _ _ _ _ wr => ∃ i : Nat, i ≤ n ∧ t = .int .i64 i ∧ Hid (Grid w.heap.size wr g n (n + 1) B2 K2 (lessQ c i Z1) ∧ Ch (fun _ => False) w wr)) (fun t _ _ _ _ _ => n - (intOf t).toNat)
                case atStart => exact ⟨0, Nat.zero_le _, rfl, Lib.hid ⟨HG2.out.congr fun r j _ _ => by unfold lessQ; rw [if_neg (fun h => Nat.not_lt_zero _ h.1)], HC2.out⟩⟩
                case round =>
                  obtain ⟨i, hin2, rfl, HI⟩ := hrel
                  by_cases hlt2 : i < n
                  · by_cases hic : i = c
                    · have tic : ((i : Int) == (c : Int)) = true := by simp; omega
                      have HN := Lib.hid (show Grid w.heap.size wr g n (n + 1) B2 K2 (lessQ c (i + 1) Z1) ∧ Ch (fun _ => False) w wr from ⟨HI.out.1.congr fun r j _ _ => by rw [hic]; exact lessQ_skip r j, HI.out.2⟩)
                      clear hic
                      go_wp2
                      go_roundw
                      case rel => exact ⟨i + 1, by omega, by go_num, HN⟩
                      case measure => simp [intOf]; omega
                    · have tic : ((i : Int) == (c : Int)) = false := by simp; omega
                      obtain ⟨tc, _⟩ := HI.out.1.topAt hlt
                      obtain ⟨ti, _⟩ := HI.out.1.topAt hlt2
                      obtain ⟨zc, _, zc8⟩ := HI.out.1.at hlt ic1
                      obtain ⟨zi, _, zi8⟩ := HI.out.1.at hlt2 ic1
                      rw [lessQ_c] at zc zc8
                      have eli : lessQ c i Z1 i c = Z1 i c := by unfold lessQ; rw [if_neg (fun h => Nat.lt_irrefl _ h.1)]
                      rw [eli] at zi zi8
                      have zpos := HZ2.out
                      have tz : ((Z1 c c : Int) == 0) = false := by rw [beq_eq_false_iff_ne]; omega
                      clear eli
                      go_wp2
                      go_quiet ((go_at_call 119; exact rdiv_quiet _ _ zi8 zc8 zpos _ _))
                      go_wp2
                      obtain ⟨w3, hw3⟩ : ∃ w3, w3 = wr.drewN nq := ⟨_, rfl⟩
                      rw [← hw3]
                      have H5 := Lib.hid (show Grid w.heap.size w3 g n (n + 1) B2 K2 (partQ c i (Gf.quo (Z1 i c) (Z1 c c)) 0 (lessQ c i Z1)) ∧ Ch (fun _ => False) w w3 by
                        rw [hw3]
                        exact ⟨(HI.out.1.drewN _).congr fun r j _ _ => (partQ_zero _ _ _ _ r j).symm, HI.out.2.drewN _⟩)
                      have hq8 := Gf.quo_lt (Z1 i c) (Z1 c c)
                      obtain ⟨q, hq⟩ : ∃ q, q = Gf.quo (Z1 i c) (Z1 c c) := ⟨_, rfl⟩
                      have HQ := Lib.hid hq
                      rw [← hq]
                      rw [← hq] at H5 hq8
                      clear hw3 tc ti zc zi tz hq HI
                      go_loopw [15, 16] (fun t _ wi => ∃ k : Nat, k ≤ n + 1 ∧ t = .int .i64 k ∧ Hid (Grid w.heap.size wi g n (n + 1) B2 K2 (partQ c i q k (lessQ c i Z1)) ∧ Ch (fun _ => False) w wi)) (fun t _ _ => n + 1 - (intOf t).toNat)
                      case atStart => exact ⟨0, Nat.zero_le _, rfl, H5⟩
                      case round =>
                        obtain ⟨k, hkn, rfl, HK⟩ := hrel
                        by_cases hlt3 : k < n + 1
                        · have tk : decide (k ≤ n) = true := decide_eq_true (by omega)
                          have hci : c ≠ i := fun e => hic e.symm
                          obtain ⟨tc, _⟩ := HK.out.1.topAt hlt
                          obtain ⟨ti, _⟩ := HK.out.1.topAt hlt2
                          obtain ⟨zc, _, zc8⟩ := HK.out.1.at hlt hlt3
                          obtain ⟨zi, fi, zi8⟩ := HK.out.1.at hlt2 hlt3
                          rw [partQ_c hci] at zc zc8
                          rw [partQ_i] at zi zi8
                          have ik2 : (k : Int) < (n : Int) + 1 := by omega
                          have hm8 := Gf.mul_lt q (lessQ c i Z1 c k)
                          clear hci
                          go_wp2_with fail
                          refine (rmul_any _ _ (by omega) (by omega) (by omega) (by omega) _).mono ?_
                          rintro e w4 ⟨rfl, rfl⟩
                          rw [Int.toNat_natCast, Int.toNat_natCast]
                          go_wp2
                          go_still_tail 15, (by kernel_rfl)
                          still_call (radd_still' _ _ zi8 hm8 _)
                          repeat still_step
                          refine wpStill_nil ?_
                          change wpList _ _ _ _ _ wr.drew
                          go_wp2
                          have HN := Lib.hid (show Grid w.heap.size (wr.drew.setCell ⟨B2 i, k, none⟩ (.int .u8 (xr (lessQ c i Z1 i k) (Gf.mul q (lessQ c i Z1 c k)) : Int))) g n (n + 1) B2 K2 (partQ c i q (k + 1) (lessQ c i Z1)) ∧ Ch (fun _ => False) w (wr.drew.setCell ⟨B2 i, k, none⟩ (.int .u8 (xr (lessQ c i Z1 i k) (Gf.mul q (lessQ c i Z1 c k)) : Int))) from ⟨(HK.out.1.drew.setRow hlt2 k _ (xr_lt8 zi8 hm8)).congr fun r j _ _ => partQ_next (fun e => hic e.symm) r j, HK.out.2.drew.setCell (p := ⟨B2 i, k, none⟩) (Or.inr (HK.out.1.lo.2 i hlt2)) _⟩)
                          clear tc ti zc zi fi
                          go_roundw
                          case rel => exact ⟨k + 1, by omega, by go_num, HN⟩
                          case measure => simp [intOf]; omega
                        · have tk : decide (k ≤ n) = false := decide_eq_false (by omega)
                          have HKE := Lib.hid (show k = n + 1 by omega)
                          have HN := Lib.hid (show Grid w.heap.size wr g n (n + 1) B2 K2 (lessQ c (i + 1) Z1) ∧ Ch (fun _ => False) w wr from by
                            have h1 := HK.out
                            rw [HKE.out, HQ.out] at h1
                            exact ⟨h1.1.congr fun r j _ hj => partQ_done hic r j hj, h1.2⟩)
                          go_wp2
                          go_roundw
                          case rel => exact ⟨i + 1, by omega, by go_num, HN⟩
                          case measure => simp [intOf]; omega
                  · have HIE := Lib.hid (show i = n by omega)
                    have HN := Lib.hid (show GridAt w wr g n (c + 1) x from by
                      have h1 := HI.out
                      rw [HIE.out] at h1
                      exact ⟨B2, K2, _, h1.1, HE2.out.less HX.out hlt HZ2.out, h1.2⟩)
                    go_wp2
                    go_roundw
                    case rel => exact ⟨c + 1, by omega, by go_num, HN⟩
                    case measure => simp [intOf]; omega
        · have HCE := Lib.hid (show c = n by omega)
          obtain ⟨B, K, Z, hg, hel, hch⟩ := HG.out
          rw [HCE.out] at hel
          obtain ⟨w2, rfl⟩ : ∃ w2 : World, w2 = wr := ⟨_, rfl⟩
          have HGR := Lib.hid hg
          have HEZ := Lib.hid hel
          have HCH := Lib.hid hch
          clear hg hel hch HG
          go_wp2
          go_loopw [17, 18, 19, 20] (fun v t _ _ wr => ∃ i : Nat, i ≤ n ∧ t = .int .i64 i ∧ Hid (Ch (fun _ => False) w2 wr ∧ wr.ownsRow w2.heap.size /-t-/5 1 v i (bytesL i x))) (fun _ t _ _ _ => n - (intOf t).toNat)
          case atStart => exact ⟨0, Nat.zero_le _, rfl, Lib.hid ⟨Ch.refl _ _, World.ownsRow_nil _ _ _ _⟩⟩
          case round =>
            obtain ⟨i, hin2, rfl, HI⟩ := hrel
            by_cases hlt2 : i < n
            · have hgr := HGR.out.ch (w0 := w) HI.out.1
              obtain ⟨ti, _⟩ := hgr.topAt hlt2
              obtain ⟨zn, _, zn8⟩ := hgr.at hlt2 (show n < n + 1 by omega)
              obtain ⟨zi, _, zi8⟩ := hgr.at hlt2 (show i < n + 1 by omega)
              have zpos := HEZ.out.diag i hlt2
              have hdone := HEZ.out.done HX.out hlt2
              have HD := Lib.hid hdone
              have in1 : n < n + 1 := by omega
              have ii1 : i < n + 1 := by omega
              have ii2 : (i : Int) < (n : Int) + 1 := by omega
              have in2 : (n : Int) < (n : Int) + 1 := by omega
              clear hgr hdone
              go_wp2
              go_quiet ((go_at_call 119; exact rdiv_quiet _ _ zn8 zi8 zpos _ _))
              rw [HD.out]
              obtain ⟨w3, hw3⟩ : ∃ w3, w3 = wr.drewN nq := ⟨_, rfl⟩
              rw [← hw3]
              have hI3 : Ch (fun _ => False) w2 w3 ∧ w3.ownsRow w2.heap.size /-t-/5 1 u17 i (bytesL i x) := by
                rw [hw3]; exact ⟨HI.out.1.drewN _, ownsRow_ch HI.out.2 ((Ch.refl _ _).drewN _)⟩
              have HI3 := Lib.hid hI3
              have HAP := Lib.hid (app_mk (x := .int .u8 (x i : Int)) hI3.2 hI3.1.size rfl (by omega))
              have HM1 := Lib.hid (show (i + 1) * 1 ≤ 140737488355328 by omega)
              clear hw3 hI3 ti zn zi HI
              go_wp2_with (at_builtin; refine wpList_append_lies _ rfl (.tmp 168) (.tmp 170) /-t-/24 rfl w2.heap.size /-t-/5 j0 (.int .u8 0) 1 1 Tryz.underlying24 gi gz0 gz1 gz2 rfl (by decide) u17 i (bytesL i x) rfl HAP.out.o ⟨w3.heap.size, 0, none⟩ 1 1 [.int .u8 (x i : Int)] rfl rfl HAP.out.n HAP.out.c (by decide) HAP.out.m HM1.out HAP.out.b (w3.heap.size + 1) HAP.out.s ?_; intro gb capb w4 h1 h2 h3 h4)
              have hnext := row_more (z := x) HI3.out.1 HI3.out.2 (Nat.le_refl _) _ _ h1 h2
              have HN := Lib.hid (show Ch (fun _ => False) w2 w4 ∧ w4.ownsRow w2.heap.size /-t-/5 1 (.slice (some ⟨gb, 0, none⟩) (i + 1) capb) (i + 1) (bytesL (i + 1) x) from ⟨hnext.2, hnext.1⟩)
              clear h1 h2 h3 h4 hnext
              go_wp2
              go_roundw
              case rel => exact ⟨i + 1, by omega, by go_num, HN⟩
              case measure => simp [intOf]; omega
            · have HIE := Lib.hid (show i = n by omega)
              go_wp2
              go_ret
              exact ⟨_, rfl, by have := HI.out.2; rw [HIE.out] at this; exact ownsRow_low this HCH.out.size, HCH.out.trans HI.out.1⟩
end Go.Proofs.YtlbdopcchoklhaaGreat

namespace Go.Proofs.YtlbdopcchoklhaaGreat
open Go.RowKit
set_option linter.unusedVariables false
set_option maxRecDepth 100000

theorem owns_at {w : World} {base : Nat} {e : TypeId} {g n cap i : Nat} {F : Nat → Value} (h : w.ownsRow base e 1 (.slice (some ⟨g, 0, none⟩) n cap) n (valsL n F)) (hi : i < n) : w.cell? ⟨g, i, none⟩ = some (F i) ∧ w.frozen? ⟨g, i, none⟩ = false := by
  constructor
  · have := World.ownsRow.cells h (g := g) rfl i (F i) (valsL_get hi)
    rwa [add_pl, Nat.zero_add] at this
  · rcases h.2 with ⟨hn, _⟩ | ⟨g', cap', cur, he, hb, hgg, _⟩
    · cases hn
    · injection he with he1 he2 he3
      injection he1 with he1
      injection he1 with he4
      subst he4
      simp [World.frozen?, hgg]
theorem TwoRel.flip {w4 W : World} {vx vy : Value} {i j : Nat} {Fx Fy : Nat → Value} (h : TwoRel w4 W vx i Fx vy j Fy) : TwoRel w4 W vy j Fy vx i Fx := ⟨h.ch, h.y, h.x, fun q e1 e2 => h.ap q e2 e1⟩
theorem owns_matF {base : Nat} {w : World} {v : Value} {n : Nat} {F : Nat → Value} {L : Nat → Nat} {Z : Nat → Nat → Nat} (h : w.ownsRow base /-t-/24 1 v n (valsL n F)) (hl : n ≤ 140737488351232) (hF : ∀ r, r < n → RowV w (F r) (L r) (Z r)) : MatV w v n L Z := by
  rcases h.2 with ⟨rfl, h0⟩ | ⟨g, cap, cur, rfl, hb, hgg, hcap, hm, hs, ht⟩
  · subst h0; exact nil_mat _ _ _
  · refine ⟨_, _, rfl, ⟨hl, hcap⟩, fun _ => ⟨g, 0, rfl, fun r hr => ⟨F r, ?_, hF r hr⟩⟩⟩
    have := World.ownsRow.cells h (g := g) rfl r (F r) (valsL_get hr)
    rwa [add_pl] at this
end Go.Proofs.YtlbdopcchoklhaaGreat

namespace Go.Proofs.YtlbdopcchoklhaaGreat
open Go.RowKit
set_option linter.unusedVariables false
set_option maxRecDepth 100000

theorem DataAt.topAt {base : Nat} {w : World} {gd k : Nat} {V : Nat → Value} {cnt : Nat → Nat} {D : Nat → Nat → Nat} (h : DataAt base w gd k V cnt D) {r : Nat} (hr : r < k) : w.cell? ⟨gd, r, none⟩ = some (V r) ∧ w.frozen? ⟨gd, r, none⟩ = false := by
  obtain ⟨cs, hb, _, hx⟩ := h.top
  exact ⟨by simp [World.cell?, hb, hx r hr], by simp [World.frozen?, hb]⟩
theorem DataAt.cnts {base : Nat} {w : World} {gd k : Nat} {V : Nat → Value} {cnt cnt' : Nat → Nat} {D : Nat → Nat → Nat} (h : DataAt base w gd k V cnt D) (e : ∀ r, r < k → cnt r = cnt' r) : DataAt base w gd k V cnt' D :=
  ⟨h.top, fun r hr => by rw [← e r hr]; exact h.row r hr, h.ap, h.lt⟩
end Go.Proofs.YtlbdopcchoklhaaGreat

namespace Go.Proofs.YtlbdopcchoklhaaGreat
open Go.RowKit
set_option linter.unusedVariables false
set_option maxRecDepth 100000

theorem lng_next {L : Nat → Nat} {i : Nat} (h0 : 0 < L i) (h : 0 < lngZ L i → L i = lngZ L i) : lngZ L (i + 1) = L i := by
  unfold lngZ
  rw [if_pos (by rw [idx_yes h0, List.length_append]; simp)]
  by_cases q : 0 < (idx L i).length
  · have e : lngZ L i = longZ L i := if_pos q
    have hp : 0 < longZ L i := wh_pos q
    rw [e] at h
    unfold longZ
    rw [wh_snoc q]
    exact (h hp).symm
  · have e : idx L i = [] := List.length_eq_zero_iff.1 (by omega)
    unfold longZ wh
    rw [idx_yes h0, e]; rfl
theorem lng_skip {L : Nat → Nat} {i : Nat} (h0 : ¬ 0 < L i) : lngZ L (i + 1) = lngZ L i := by
  unfold lngZ longZ wh; rw [idx_no h0]
theorem not_fits {L : Nat → Nat} {n i : Nat} (hi : i < n) (h0 : 0 < L i) (h : 4096 < L i ∨ (0 < lngZ L i ∧ L i ≠ lngZ L i)) : ¬ Fits L n := fun hf => by
  rcases h with h | ⟨h1, h2⟩
  · have := (hf i hi h0).1; omega
  · have hq : 0 < (idx L i).length := by
      by_cases q : 0 < (idx L i).length
      · exact q
      · unfold lngZ at h1; rw [if_neg q] at h1; omega
    have e : lngZ L i = L (wh L i 0) := if_pos hq
    rw [e] at h2
    exact h2 ((hf i hi h0).2 _ (by have := wh_lt hq; omega) (wh_pos hq))
theorem jj_le (L : Nat → Nat) (k i : Nat) : jj L k i ≤ k := Nat.min_le_left _ _
theorem jj_zero (L : Nat → Nat) (k : Nat) : jj L k 0 = 0 := by unfold jj idx; simp
theorem jj_all {L : Nat → Nat} {k n : Nat} (h : k ≤ (idx L n).length) : jj L k n = k := Nat.min_eq_left h
theorem jj_skip {L : Nat → Nat} {k i : Nat} (h0 : ¬ 0 < L i) : jj L k (i + 1) = jj L k i := by unfold jj; rw [idx_no h0]
theorem jj_more {L : Nat → Nat} {k i : Nat} (h0 : 0 < L i) (h : jj L k i < k) : jj L k (i + 1) = jj L k i + 1 ∧ jj L k i = (idx L i).length := by
  unfold jj at h ⊢
  rw [idx_yes h0, List.length_append]
  simp only [List.length_singleton]
  omega
theorem jj_full {L : Nat → Nat} {k i : Nat} (h0 : 0 < L i) (h : ¬ jj L k i < k) : jj L k (i + 1) = jj L k i := by
  unfold jj at h ⊢
  rw [idx_yes h0, List.length_append]
  simp only [List.length_singleton]
  omega
theorem wh_new {L : Nat → Nat} {n i : Nat} (hi : i < n) (h0 : 0 < L i) : wh L n (idx L i).length = i := by
  have hl : (idx L i).length < (idx L (i + 1)).length := by rw [idx_yes h0, List.length_append]; simp
  rw [wh_up hl (by omega)]
  unfold wh
  rw [idx_yes h0, List.getD, List.getElem?_append_right (Nat.le_refl _)]
  simp
theorem up_sameF {F : Nat → Value} {j : Nat} {u : Value} (h : F j = u) : ∀ r, r < j + 1 → upF F j u r = F r := fun r _ => by
  unfold upF
  by_cases e : r = j
  · rw [if_pos e, e, h]
  · rw [if_neg e]
theorem owns_byte {w : World} {base g n cap i : Nat} {z : Nat → Nat} (h : w.ownsRow base /-t-/5 1 (.slice (some ⟨g, 0, none⟩) n cap) n (bytesL n z)) (hi : i < n) : w.cell? ⟨g, i, none⟩ = some (.int .u8 (z i : Int)) := by
  have := World.ownsRow.cells h (g := g) rfl i (.int .u8 (z i : Int)) (by unfold bytesL; simp [hi])
  rwa [add_pl, Nat.zero_add] at this
theorem cnt_next (c i r : Nat) : up1 (cntZ c i) i (cntZ c i i + 1) r = cntZ c (i + 1) r := by
  unfold up1 cntZ
  by_cases e : r = i
  · subst e; rw [if_pos rfl, if_neg (Nat.lt_irrefl _), if_pos (by omega)]
  · rw [if_neg e]
    by_cases q : r < i
    · rw [if_pos q, if_pos (by omega)]
    · rw [if_neg q, if_neg (by omega)]
theorem dec_mat {base : Nat} {w : World} {v : Value} {n k m m2 : Nat} {D : Nat → Nat → Nat} (hD : AllB D) (hk : k ≤ n) (hn : n ≤ 64) (hm : m = m2) (h : BldL base 0 w v (k + (n - k)) (jn k (fun _ => m) (fun _ => m)) (jz k D (mulZ k (cauZ k) D))) : MatV w v n (fun _ => m2) (sharesZ k D) := by
  have e : k + (n - k) = n := by omega
  rw [e] at h
  subst hm
  exact ((BldL.lens h (fun r _ => jn_const k m r)).congr fun r c _ _ => shares_join hD r c).mat (by omega)
set_option maxHeartbeats 6400000 in
set_option maxRecDepth 100000 in
theorem rdecode_any (bs os Cs n k : Nat) (L : Nat → Nat) (X D : Nat → Nat → Nat) (hX : AllB X) (w : World) (k1 : 1 ≤ k) (k2 : k ≤ n) (n64 : n ≤ 64) (hs : MatV w (.slice (some ⟨bs, os, none⟩) n Cs) n L X) (hD : Fits L n → k ≤ (idx L n).length → DataOf L n k (longZ L n) X D) :
    Calls Tryz.prog 45 #[.slice (some ⟨bs, os, none⟩) n Cs, .int .i64 (k : Int)] w (RDec L n k D w) := by
  obtain ⟨Fsv, hFS, hFSr⟩ := mat_F hs
  have HFS := Lib.hid hFS
  have HFSR := Lib.hid hFSr
  have HX := Lib.hid hX
  have HD := Lib.hid hD
  have HSUB := Lib.hid (sub_nat k2)
  have HSL := Lib.hid (show ∀ i, i < n → ∃ A D, w.cell? ⟨bs, os + i, none⟩ = some (.slice A (L i) D) ∧ Fsv i = .slice A (L i) D from fun i hi => by
    obtain ⟨A, l, D, e, hc⟩ := hFS i hi
    obtain ⟨A2, C2, e2, _⟩ := hFSr i hi
    rw [e] at e2
    injection e2 with e3 e4 e5
    subst e4
    exact ⟨A, D, hc, e⟩)
  obtain ⟨i0, hi, hz0, hz1, hz2⟩ := info_parts Tryz.info24
  obtain ⟨j0, gi, gz0, gz1, gz2⟩ := info_parts Tryz.info5
  clear hFS hFSr hX hD hs
  go_enter Tryz.func45, Tryz.ntmps45
  go_wp2_with fail
  rw [HSUB.out]
  refine (rrows_new k (n - k) k1 (by omega) _).mono ?_
  rintro e w1 ⟨vr, rfl, hB, hch1⟩
  rw [show k + (n - k) = n by omega] at hB
  have hBm := hB.mat (by omega)
  obtain ⟨br, ob, Cr, rfl, _, _⟩ := hBm.some (by omega)
  obtain ⟨FR, hFR, hFRr⟩ := mat_F hBm
  have HFR := Lib.hid hFR
  have HFRR := Lib.hid hFRr
  have HC1 := Lib.hid hch1
  clear hch1 hB hBm hFR hFRr
  go_wp2
  go_loopw [8, 9, 10, 11, 12, 13] (fun t8 vx vy t11 t12 _ wr => ∃ i : Nat, i ≤ n ∧ t12 = .int .i64 i ∧ t8 = .int .i64 (lngZ L i : Int) ∧ t11 = .int .i64 ((idx L i).length : Int) ∧ Hid (PickAt L k i FR Fsv n w1 wr vx vy)) (fun _ _ _ _ t _ _ => n - (intOf t).toNat)
  case atStart => exact ⟨0, Nat.zero_le _, rfl, rfl, rfl, Lib.hid ⟨fun i hi => absurd hi (Nat.not_lt_zero i), Ch.refl _ _, by rw [jj_zero]; exact World.ownsRow_nil _ _ _ _, by rw [jj_zero]; exact World.ownsRow_nil _ _ _ _, fun q hq => by cases hq⟩⟩
  case round =>
    obtain ⟨i, hin, rfl, rfl, rfl, HP⟩ := hrel
    have hlen := idx_len L i
    have hjk := jj_le L k i
    by_cases hlt : i < n
    · obtain ⟨As, Ds, cs, hfs⟩ := HSL.out i hlt
      have c1 := (HC1.out.trans HP.out.2.ch).cell cs (fun f => f)
      by_cases h0 : 0 < L i
      case neg =>
        have hz : L i = 0 := by omega
        rw [hz] at c1
        have HN := Lib.hid (show PickAt L k (i + 1) FR Fsv n w1 wr u9 u10 from ⟨HP.out.1.skip h0, by rw [jj_skip h0]; exact HP.out.2⟩)
        have HL1 := Lib.hid (lng_skip h0)
        have HI1 := Lib.hid (idx_no h0)
        clear hz h0 cs hfs HP
        go_wp2
        go_roundw
        case rel => exact ⟨i + 1, by omega, by go_num, by rw [HL1.out], by rw [HI1.out], HN⟩
        case measure => simp [intOf]; omega
      have tz : ((L i : Int) == 0) = false := by rw [beq_eq_false_iff_ne]; omega
      by_cases hbad : 4096 < L i ∨ (0 < lngZ L i ∧ L i ≠ lngZ L i)
      · have HNF := Lib.hid (not_fits hlt h0 hbad)
        have HCW := Lib.hid (HC1.out.trans HP.out.2.ch)
        clear cs hfs HP
        by_cases h4 : 4096 < L i
        · have tA : decide ((4096 : Int) < (L i : Int)) = true := by simp; omega
          clear hbad
          go_wp2
          go_ret2
          exact Or.inl ⟨HNF.out, rfl, HCW.out⟩
        · have tA : decide ((4096 : Int) < (L i : Int)) = false := by simp; omega
          have hb2 : 0 < lngZ L i ∧ L i ≠ lngZ L i := by
            rcases hbad with q | q
            · exact absurd q h4
            · exact q
          have tB : decide (0 < lngZ L i) = true := decide_eq_true hb2.1
          have tC : ((L i : Int) != (lngZ L i : Int)) = true := by simp; have := hb2.2; omega
          clear hbad hb2
          go_wp2
          go_ret2
          exact Or.inl ⟨HNF.out, rfl, HCW.out⟩
      · have h4 : L i ≤ 4096 := by
          by_cases q : L i ≤ 4096
          · exact q
          · exact absurd (Or.inl (by omega)) hbad
        have hl : 0 < lngZ L i → L i = lngZ L i := fun q => by
          by_cases e : L i = lngZ L i
          · exact e
          · exact absurd (Or.inr ⟨q, e⟩) hbad
        have tA : decide ((4096 : Int) < (L i : Int)) = false := by simp; omega
        have htest : decide (0 < lngZ L i) = false ∨ (decide (0 < lngZ L i) = true ∧ ((L i : Int) != (lngZ L i : Int)) = false) := by
          by_cases q : 0 < lngZ L i
          · exact Or.inr ⟨decide_eq_true q, by have := hl q; simp; omega⟩
          · exact Or.inl (decide_eq_false q)
        have HFN := Lib.hid (HP.out.1.next h0 h4 hl)
        have HL1 := Lib.hid (lng_next h0 hl)
        have HI1 := Lib.hid (show (idx L (i + 1)).length = (idx L i).length + 1 by rw [idx_yes h0]; simp)
        obtain ⟨A9, C9, rfl, _⟩ := form_len HP.out.2.x
        obtain ⟨Ar, lr, Dr, hfr, cr⟩ := HFR.out i hlt
        have cr1 := HP.out.2.ch.cell cr (fun f => f)
        have h40 := h4
        clear hbad hl h4
        by_cases hjl : jj L k i < k
        · have tD : decide (jj L k i < k) = true := decide_eq_true hjl
          obtain ⟨hj1, hj2⟩ := jj_more h0 hjl
          have hwn := wh_new hlt h0
          rw [← hj2] at hwn
          have HJ1 := Lib.hid hj1
          have HWX := Lib.hid (show (fun r => FR (wh L n r)) (jj L k i) = .slice Ar lr Dr by show FR (wh L n (jj L k i)) = _; rw [hwn]; exact hfr)
          have HWY := Lib.hid (show (fun r => Fsv (wh L n r)) (jj L k i) = .slice As (L i) Ds by show Fsv (wh L n (jj L k i)) = _; rw [hwn]; exact hfs)
          have HT := Lib.hid HP.out.2
          have HCR := Lib.hid cr
          have HCS := Lib.hid cs
          have HAP := Lib.hid (app_mk (x := .slice Ar lr Dr) HP.out.2.x HP.out.2.ch.size rfl (by omega))
          have HM2 := Lib.hid (show (jj L k i + 1) * 24 ≤ 140737488355328 by omega)
          clear hj1 hj2 hwn cr cs hfr hfs HP
          rcases htest with tB | ⟨tB, tC⟩
          all_goals
            go_upto_region 19 with (at_builtin; refine wpList_append_lies _ rfl (.tmp 64) (.tmp 69) /-t-/37 rfl w1.heap.size /-t-/24 i0 (.slice none 0 0) 1 24 Tryz.underlying37 hi hz0 hz1 hz2 rfl (by decide) (.slice A9 (jj L k i) C9) (jj L k i) (valsL (jj L k i) (fun r => FR (wh L n r))) rfl HAP.out.o ⟨wr.heap.size, 0, none⟩ 1 1 [.slice Ar lr Dr] rfl rfl HAP.out.n HAP.out.c (by decide) HAP.out.m HM2.out HAP.out.b (wr.heap.size + 1) HAP.out.s ?_; intro gx capx w5 h1 h2 h3 h4)
            have hP5 := HT.out.app h1 h2 h3
            have HP5 := Lib.hid hP5
            have c5 := (HC1.out.trans hP5.ch).cell HCS.out (fun f => f)
            have HAP2 := Lib.hid (app_mk (x := .slice As (L i) Ds) hP5.y hP5.ch.size rfl (by omega))
            clear h1 h2 h3 h4 hP5 c1 cr1
            go_wp2_with (at_builtin; refine wpList_append_lies _ rfl (.tmp 71) (.tmp 76) /-t-/37 rfl w1.heap.size /-t-/24 i0 (.slice none 0 0) 1 24 Tryz.underlying37 hi hz0 hz1 hz2 rfl (by decide) u10 (jj L k i) (valsL (jj L k i) (fun r => Fsv (wh L n r))) rfl HAP2.out.o ⟨w5.heap.size, 0, none⟩ 1 1 [.slice As (L i) Ds] rfl rfl HAP2.out.n HAP2.out.c (by decide) HAP2.out.m HM2.out HAP2.out.b (w5.heap.size + 1) HAP2.out.s ?_; intro gy capy w6 h1 h2 h3 h4)
            have hP6 := (HP5.out.flip.app h1 h2 h3).flip.congr (up_sameF HWX.out) (up_sameF HWY.out)
            rw [← HJ1.out] at hP6
            have HN := Lib.hid (show PickAt L k (i + 1) FR Fsv n w1 w6 (.slice (some ⟨gx, 0, none⟩) (jj L k i + 1) capx) (.slice (some ⟨gy, 0, none⟩) (jj L k i + 1) capy) from ⟨HFN.out, by rw [← HJ1.out]; exact hP6⟩)
            clear h1 h2 h3 h4 hP6 c5
            go_wp2
            go_roundw
            case rel => exact ⟨i + 1, by omega, by go_num, by rw [HL1.out], by rw [HI1.out]; go_num, HN⟩
            case measure => simp [intOf]; omega
        · have tD : decide (jj L k i < k) = false := decide_eq_false hjl
          have HN := Lib.hid (show PickAt L k (i + 1) FR Fsv n w1 wr (.slice A9 (jj L k i) C9) u10 from ⟨HFN.out, by rw [jj_full h0 hjl]; exact HP.out.2⟩)
          clear cr cs hfr hfs HP
          rcases htest with tB | ⟨tB, tC⟩
          all_goals
            go_wp2
            go_roundw
            case rel => exact ⟨i + 1, by omega, by go_num, by rw [HL1.out], by rw [HI1.out]; go_num, HN⟩
            case measure => simp [intOf]; omega
    · have HE := Lib.hid (show i = n by omega)
      obtain ⟨wp, rfl⟩ : ∃ wp : World, wp = wr := ⟨_, rfl⟩
      obtain ⟨hfit, hT⟩ := HP.out
      rw [HE.out] at hfit hT
      obtain ⟨q, hq⟩ : ∃ q, q = (idx L i).length := ⟨_, rfl⟩
      have HQ := Lib.hid (show (idx L n).length = q by rw [hq, HE.out])
      rw [← hq]
      obtain ⟨l, hl⟩ : ∃ l, l = lngZ L i := ⟨_, rfl⟩
      have HLN := Lib.hid (show lngZ L n = l by rw [hl, HE.out])
      rw [← hl]
      have HFit := Lib.hid hfit
      have HCP := Lib.hid (HC1.out.trans hT.ch)
      clear hq hl HP hlen hjk
      by_cases hkq : k ≤ q
      case neg =>
        have t1 : decide (q < k) = true := decide_eq_true (by omega)
        clear hT hfit
        go_wp2
        go_ret2
        exact Or.inr (Or.inl ⟨HFit.out, by rw [HQ.out]; omega, rfl, HCP.out⟩)
      have t1 : decide (q < k) = false := decide_eq_false (by omega)
      have hkl : k ≤ (idx L n).length := by rw [HQ.out]; exact hkq
      have hll : l = longZ L n := by rw [← HLN.out]; exact lng_done (by omega)
      have hlb := hfit.bounds (by omega)
      have HDA := Lib.hid (HD.out hfit hkl)
      rw [jj_all hkl] at hT
      have hMx : MatV wp u9 k (fun _ => k) (rowsZ L n k) := owns_matF hT.x (by omega) (fun r hr => (HFRR.out _ (wh_lt (by omega))).ch hT.ch (fun _ _ f => f))
      obtain ⟨gy, capy, rfl, _, _⟩ := World.ownsRow.form hT.y (by omega)
      have HOF := Lib.hid (show ∀ r, r < k → ∃ bx ox Dx, wp.cell? ⟨gy, r, none⟩ = some (.slice (some ⟨bx, ox, none⟩) l Dx) ∧ ∀ c, c < l → wp.cell? ⟨bx, ox + c, none⟩ = some (.int .u8 (X (wh L n r) c : Int)) from fun r hr => by
        have hw := (owns_at hT.y hr).1
        have hv := (HFSR.out _ (wh_lt (show r < (idx L n).length by omega))).ch (HC1.out.trans hT.ch) (fun _ _ f => f)
        rw [hfit.wh (by omega), ← hll] at hv
        obtain ⟨A, Dx, e, _, h3⟩ := hv
        obtain ⟨bx, ox, rfl, hcb⟩ := h3 (by omega)
        exact ⟨bx, ox, Dx, by rw [hw]; exact congrArg some e, fun c hc => (hcb c hc).1⟩)
      have HLL := Lib.hid hll
      have l1 : 1 ≤ l := by omega
      have l2 : l ≤ 4096 := by omega
      obtain ⟨A9, C9, rfl, _⟩ := id hMx
      have HMX := Lib.hid hMx
      have hmk := run_make_row' (P := Tryz.prog) /-t-/37 /-t-/24 (.slice none 0 0) 24 Tryz.underlying37 Tryz.info24 rfl .i64 .i64 k (by omega) (by omega)
      have HKL := Lib.hid hkl
      clear hMx hT hfit hll hlb hkl HFR HFRR HFS HFSR HSL
      go_wp2
      obtain ⟨wd, hwd⟩ : ∃ wd, wd = wp.alloc (.cells (madeCells #[Value.slice none 0 0] k) /-t-/24) := ⟨_, rfl⟩
      rw [← hwd]
      have hds : wd.heap.size = wp.heap.size + 1 := by rw [hwd]; simp
      have hdc : Ch (fun _ => False) wp wd := by rw [hwd]; exact (Ch.refl _ _).alloc _ _
      have hd0 : DataAt (wp.heap.size + 1) wd wp.heap.size k (fun _ => .slice none 0 0) (fun _ => 0) D := by
        refine ⟨?_, fun r _ => World.ownsRow_nil _ _ _ _, (fun r s _ _ _ q hq => by cases hq), by omega⟩
        obtain ⟨cs, h1, h2, h3⟩ := World.rowIs_made wp (.slice none 0 0) k /-t-/24
        exact ⟨cs, by rw [hwd]; exact h1, h2, h3⟩
      have H0 := Lib.hid (show ∃ V, DataAt (wp.heap.size + 1) wd wp.heap.size k V (fun _ => 0) D ∧ Ch (fun _ => False) wp wd ∧ wp.heap.size + 1 ≤ wd.heap.size from ⟨_, hd0, hdc, by omega⟩)
      clear hmk hwd hds hdc hd0 t1
      go_loopw [15, 16, 17, 18, 19] (fun t _ _ _ _ wc => ∃ c : Nat, c ≤ l ∧ t = .int .i64 c ∧ Hid (∃ V, DataAt (wp.heap.size + 1) wc wp.heap.size k V (fun _ => c) D ∧ Ch (fun _ => False) wp wc ∧ wp.heap.size + 1 ≤ wc.heap.size)) (fun t _ _ _ _ _ => l - (intOf t).toNat)
      case atStart => exact ⟨0, Nat.zero_le _, rfl, H0⟩
      case round =>
        obtain ⟨c, hcl, rfl, HV⟩ := hrel
        obtain ⟨wc, rfl⟩ : ∃ wc : World, wc = wr := ⟨_, rfl⟩
        by_cases hlt2 : c < l
        · go_wp2
          go_loopw [16, 17] (fun v t wi => ∃ r : Nat, r ≤ k ∧ t = .int .i64 r ∧ Hid (Ch (fun _ => False) wc wi ∧ wi.ownsRow wc.heap.size /-t-/5 1 v r (bytesL r (fun r => X (wh L n r) c)))) (fun _ t _ => k - (intOf t).toNat)
          case atStart => exact ⟨0, Nat.zero_le _, rfl, Lib.hid ⟨Ch.refl _ _, World.ownsRow_nil _ _ _ _⟩⟩
          case round =>
            obtain ⟨r, hrk, rfl, HI⟩ := hrel
            by_cases hlt3 : r < k
            · obtain ⟨bx, ox, Dx, cy, cb⟩ := HOF.out r hlt3
              obtain ⟨V, _, hcv, _⟩ := HV.out
              have cy1 := (hcv.trans HI.out.1).cell cy (fun f => f)
              have cb1 := (hcv.trans HI.out.1).cell (cb c hlt2) (fun f => f)
              have HAP := Lib.hid (app_mk (x := .int .u8 (X (wh L n r) c : Int)) HI.out.2 HI.out.1.size rfl (by omega))
              have HM1 := Lib.hid (show (r + 1) * 1 ≤ 140737488355328 by omega)
              clear cy cb hcv
              go_wp2_with (at_builtin; refine wpList_append_lies _ rfl (.tmp 93) (.tmp 101) /-t-/24 rfl wc.heap.size /-t-/5 j0 (.int .u8 0) 1 1 Tryz.underlying24 gi gz0 gz1 gz2 rfl (by decide) u16 r (bytesL r (fun r => X (wh L n r) c)) rfl HAP.out.o ⟨wr.heap.size, 0, none⟩ 1 1 [.int .u8 (X (wh L n r) c : Int)] rfl rfl HAP.out.n HAP.out.c (by decide) HAP.out.m HM1.out HAP.out.b (wr.heap.size + 1) HAP.out.s ?_; intro gb capb w4 h1 h2 h3 h4)
              have hnext := row_more (z := fun r => X (wh L n r) c) HI.out.1 HI.out.2 (Nat.le_refl _) _ _ h1 h2
              have HN := Lib.hid (show Ch (fun _ => False) wc w4 ∧ w4.ownsRow wc.heap.size /-t-/5 1 (.slice (some ⟨gb, 0, none⟩) (r + 1) capb) (r + 1) (bytesL (r + 1) (fun r => X (wh L n r) c)) from ⟨hnext.2, hnext.1⟩)
              clear h1 h2 h3 h4 hnext
              go_wp2
              go_roundw
              case rel => exact ⟨r + 1, by omega, by go_num, HN⟩
              case measure => simp [intOf]; omega
            · have HRE := Lib.hid (show r = k by omega)
              obtain ⟨hci, hyo⟩ := HI.out
              rw [HRE.out] at hyo
              obtain ⟨g2, cap2, rfl, _, _⟩ := World.ownsRow.form hyo (by omega)
              obtain ⟨V, hdv, hcv, hvs⟩ := HV.out
              have HYO := Lib.hid (show ∀ i, i < k → wr.cell? ⟨g2, 0 + i, none⟩ = some (.int .u8 (X (wh L n i) c : Int)) from fun i hi => by rw [Nat.zero_add]; exact owns_byte hyo hi)
              have HMI := Lib.hid (HMX.out.gr (hcv.trans hci))
              have HDV := Lib.hid (hdv.ch hci)
              have HDB := Lib.hid (show ∀ r, r < k → ∀ b, (V r).ownBlock = some b → b < wr.heap.size from fun r hr b hb => Nat.lt_of_lt_of_le (World.ownsRow.lt (hdv.row r hr) b hb).2 hci.size)
              have HCV := Lib.hid (hcv.trans hci)
              have hvs2 : wp.heap.size + 1 ≤ wr.heap.size := Nat.le_trans hvs hci.size
              clear hci hyo hdv hcv hvs HI HV
              go_wp2_with fail
              refine (solved_any _ g2 0 k cap2 (rowsZ L n k) (fun r => X (wh L n r) c) (fun r => D r c) _ k1 (by omega) HMI.out (rowsZ_b _ _ _) (rows_left HKL.out n64 k2) HYO.out (fun i => HX.out _ _) (fun j => HDA.out.1 _ _) (fun r hr => HDA.out.2 r c hr (by rw [← HLL.out]; exact hlt2))).mono ?_
              rintro e w7 ⟨v8, rfl, hx8, hch7⟩
              obtain ⟨g8, cap8, rfl, hg8, hg8'⟩ := World.ownsRow.form hx8 (by omega)
              have HX8 := Lib.hid (show ∀ i, i < k → w7.cell? ⟨g8, i, none⟩ = some (.int .u8 (D i c : Int)) from fun i hi => owns_byte hx8 hi)
              have HG0 := Lib.hid (show GrowAt (wp.heap.size + 1) wp w7 w7 wp.heap.size g8 k c 0 D from ⟨V, (HDV.out.ch hch7).cnts fun r _ => by unfold cntZ; rw [if_neg (Nat.not_lt_zero _)], HCV.out.trans hch7, rfl, fun r hr e => by have := HDB.out r hr g8 e; omega, Nat.le_refl _⟩)
              have hs7 := hch7.size
              clear hx8 hch7 HDV HDB HMI HYO
              go_wp2
              go_loopw [19] (fun t wj => ∃ i : Nat, i ≤ k ∧ t = .int .i64 i ∧ Hid (GrowAt (wp.heap.size + 1) wp w7 wj wp.heap.size g8 k c i D)) (fun t _ => k - (intOf t).toNat)
              case atStart => exact ⟨0, Nat.zero_le _, rfl, HG0⟩
              case round =>
                obtain ⟨i, hik, rfl, HGA⟩ := hrel
                by_cases hlt4 : i < k
                · obtain ⟨V, hdv, hcv, h8, h8b, h8s⟩ := HGA.out
                  obtain ⟨Av, Cv, hV, _⟩ := form_len (hdv.row i hlt4)
                  obtain ⟨v', w', hst⟩ := hdv.step hlt4 (by unfold cntZ; split <;> omega) (by omega) hcv (Nat.le_refl _)
                  have e1 := (hdv.topAt hlt4).1
                  have e2 : wr.cell? ⟨g8, i, none⟩ = some (.int .u8 (D i c : Int)) := (World.cell?_of_block (a := ⟨g8, i, none⟩) h8).trans (HX8.out i hlt4)
                  have hci : cntZ c i i = c := by unfold cntZ; rw [if_neg (Nat.lt_irrefl _)]
                  obtain ⟨A', C', rfl⟩ := hst.form
                  rw [hci] at hV
                  have hrun := hst.run
                  rw [hci, hV] at hrun
                  have hbg := World.block_lt_of_cell? _ _ e1
                  have e1a : ∀ o, (wr.alloc o).cell? ⟨wp.heap.size, i, none⟩ = some (V i) := fun o => (World.cell?_of_block (a := ⟨wp.heap.size, i, none⟩) (Below.heap_alloc wr o wp.heap.size hbg)).trans e1
                  have e5 := hst.cell
                  rw [hV] at e1 e1a e5
                  have e6 := hst.frozen
                  have HRUN := Lib.hid hrun
                  have HN := Lib.hid (show GrowAt (wp.heap.size + 1) wp w7 (w'.setCell ⟨wp.heap.size, i, none⟩ (.slice A' (cntZ c i i + 1) C')) wp.heap.size g8 k c (i + 1) D from by
                    refine ⟨upF V i (.slice A' (cntZ c i i + 1) C'), hst.next.cnts fun r _ => cnt_next c i r, hst.ch, (hst.other g8 (by omega) (by omega) (h8b i hlt4)).trans h8, fun r hr e => ?_, ?_⟩
                    · unfold upF at e
                      by_cases q : r = i
                      · rw [if_pos q] at e
                        rcases hst.blk with b1 | b1
                        · exact h8b i hlt4 (by rw [← b1]; exact e)
                        · rw [b1] at e
                          injection e with e
                          omega
                      · rw [if_neg q] at e; exact h8b r hr e
                    · exact Nat.le_trans h8s hst.size)
                  rw [hci] at HN
                  clear hdv hcv h8 h8b h8s hst hrun hci HGA hV
                  go_wp2
                  go_region_law (refine step_bytes_ofF rfl (.tmp 116) (.tmp 121) rfl rfl (.slice Av c Cv) (.slice (some ⟨wr.heap.size, 0, none⟩) 1 1) (.slice A' (c + 1) C') w' (by simp [Act.eval]) (by simp [Act.eval]) HRUN.out ?_)
                  all_goals
                    go_wp2
                    go_roundw
                    case rel => exact ⟨i + 1, by omega, by go_num, HN⟩
                    case measure => simp [intOf]; omega
                · have HIE := Lib.hid (show i = k by omega)
                  have HN := Lib.hid (show ∃ V, DataAt (wp.heap.size + 1) wr wp.heap.size k V (fun _ => c + 1) D ∧ Ch (fun _ => False) wp wr ∧ wp.heap.size + 1 ≤ wr.heap.size from by
                    obtain ⟨V, h1, h2, h3, h4, h5⟩ := HGA.out
                    rw [HIE.out] at h1
                    exact ⟨V, h1.cnts fun r hr => by unfold cntZ; rw [if_pos hr], h2, by omega⟩)
                  go_wp2
                  go_roundw
                  case rel => exact ⟨c + 1, by omega, by go_num, HN⟩
                  case measure => simp [intOf]; omega
        · have HCE := Lib.hid (show c = l by omega)
          obtain ⟨V, hdv, hcv, hvs⟩ := HV.out
          have hbl := hdv.bld (base0 := wp.heap.size) (l := l) (fun r _ => HCE.out) HDA.out.1 (by omega) (by omega) (Nat.le_refl _)
          have HBL := Lib.hid hbl
          have HMD := Lib.hid (hbl.mat (by omega))
          have HCV := Lib.hid hcv
          have HMY := Lib.hid (may_const k1 (by omega : k ≤ 64) l1 l2)
          clear hdv hcv hvs hbl HV HMX HOF
          go_wp2_with fail
          rw [HSUB.out]
          refine (rencode_new _ k (n - k) (fun _ => l) D _ HMD.out HMY.out (by omega)).mono ?_
          rintro e w8 ⟨u, rfl, hB8, hch8⟩
          obtain ⟨v', w', hj⟩ := bld_join (BldL.ch HBL.out hch8) hB8 (Nat.le_trans HCV.out.size hch8.size) (by omega) (fun q hq => (BldL.block HBL.out hq).2) (Nat.zero_le _)
          have hchw := hj.ch ((HCP.out.trans HCV.out).trans hch8) (fun q hq => Nat.le_trans HCP.out.size (BldL.block HBL.out hq).1)
          have HJ := Lib.hid hj.1
          have HBJ := Lib.hid hj.2.1
          have HCW := Lib.hid hchw
          clear hB8 hch8 hj hchw
          go_wp2_with (at_builtin; refine wpList_rows_of _ rfl (.tmp 133) (.tmp 134) rfl rfl _ u v' w' rfl rfl HJ.out ?_)
          go_ret2
          exact Or.inr (Or.inr ⟨HFit.out, HKL.out, _, rfl, dec_mat HDA.out.1 k2 n64 HLL.out HBJ.out, HCW.out⟩)
end Go.Proofs.YtlbdopcchoklhaaGreat

namespace Go.Proofs.YtlbdopcchoklhaaGreat
open Go.RowKit
set_option linter.unusedVariables false
set_option maxRecDepth 100000
set_option linter.unusedSimpArgs false

section
variable {w0 w w' : World} {g n i : Nat} {L : Nat → Nat} {X : Nat → Nat → Nat}
end
theorem stpB_yes {vol : Int} {g : Ge} {a s no : Int} {l : Nat} (h : stpB vol g a s no l = true) : frsB g a s = true ∧ wordB vol = true ∧ wordB no = true ∧ (l : Int) = g.k + g.m := by
  unfold stpB at h
  simp only [Bool.and_eq_true, decide_eq_true_eq] at h
  exact ⟨h.1, h.2.1, h.2.2.1, h.2.2.2⟩
set_option maxHeartbeats 3200000 in
theorem rstripe_no (A : Option Addr) (l C : Nat) (vol : Int) (g : Ge) (a s no : Int) (w : World) (h : stpB vol g a s no l = false) (hl : l ≤ 140737488351232) : Calls Tryz.prog 17 #[.slice A l C, .int .i64 vol, .agg (geC g), .int .i64 a, .int .i64 s, .int .i64 no] w (ErrPost 1 w) := by
  obtain ⟨w1, H, hR⟩ := geR w g
  have HR := Lib.hid hR
  have HX := Lib.hid hR.x
  obtain ⟨x0, x1, x2, x3⟩ := hR.x
  clear hR
  cases hf : frsB g a s with
  | false =>
    have HF := Lib.hid (rfirst_no g a s w1 hf)
    clear h hf
    go_enter Tryz.func17, Tryz.ntmps17
    go_wp2_with (first | ((with_reducible refine wpList_isOp (.box 23 (.tmp 2)) rfl ?_); refine wpList_boxing _ w1 rfl 23 (.tmp 2) rfl (geC g) H rfl (by exact HR.out.sz) (by exact HR.out.al) ?_) | fail)
    refine HF.out.mono ?_
    rintro e w2 ⟨rfl, hc2⟩
    have HC := Lib.hid (HR.out.ch.trans hc2)
    clear hc2 x0 x1 x2 x3
    go_wp2
    go_ret2
    exact ⟨rfl, HC.out⟩
  | true =>
    obtain ⟨n, x, y, hn, rfl, rfl, rfl, hx, hy⟩ := frsB_nat hf
    have HF := Lib.hid (rfirst_yes n x y w1 hn hx hy)
    have HV := Lib.hid (fun w => w12_any vol w)
    have HNO := Lib.hid (fun w => w12_any no w)
    have hm : (¬ (0 ≤ vol ∧ vol ≤ 4294967295)) ∨ ((0 ≤ vol ∧ vol ≤ 4294967295) ∧ ((¬ (0 ≤ no ∧ no ≤ 4294967295)) ∨ ((0 ≤ no ∧ no ≤ 4294967295) ∧ ¬ (l : Int) = n.ge.k + n.ge.m))) := by
      by_cases q1 : 0 ≤ vol ∧ vol ≤ 4294967295
      · by_cases q2 : 0 ≤ no ∧ no ≤ 4294967295
        · refine Or.inr ⟨q1, Or.inr ⟨q2, fun q3 => ?_⟩⟩
          unfold stpB at h
          rw [hf, wordB_iff.2 q1, wordB_iff.2 q2, decide_eq_true q3] at h
          cases h
        · exact Or.inr ⟨q1, Or.inl q2⟩
      · exact Or.inl q1
    have HM := Lib.hid hm
    have HL := Lib.hid hl
    have HN := Lib.hid hn
    clear h hf hm hx hy hl hn
    go_enter Tryz.func17, Tryz.ntmps17
    go_wp2_with (first | ((with_reducible refine wpList_isOp (.box 23 (.tmp 2)) rfl ?_); refine wpList_boxing _ w1 rfl 23 (.tmp 2) rfl (geC n.ge) H rfl (by exact HR.out.sz) (by exact HR.out.al) ?_) | fail)
    refine HF.out.mono ?_
    rintro e w2 ⟨rfl, hc2⟩
    have HC := Lib.hid (HR.out.ch.trans hc2)
    clear x0 x1 x2 x3
    obtain ⟨x0, x1, x2, x3⟩ := HX.out.gr hc2
    clear hc2
    go_wp2_with fail
    refine (HV.out _).mono ?_
    rintro e w3 ⟨rfl, rfl⟩
    rcases HM.out with q | ⟨q, q2⟩
    · rw [decide_eq_false q]
      go_wp2
      go_ret2
      exact ⟨rfl, HC.out⟩
    rw [decide_eq_true q]
    clear q
    go_wp2_with fail
    refine (HNO.out _).mono ?_
    rintro e w3 ⟨rfl, rfl⟩
    rcases q2 with q | ⟨q, q3⟩
    · rw [decide_eq_false q]
      go_wp2
      go_ret2
      exact ⟨rfl, HC.out⟩
    rw [decide_eq_true q]
    clear q
    have HQ : Hid (wrap64 (n.ge.k + n.ge.m) = n.ge.k + n.ge.m) := Lib.hid (by
      have k2 := HN.out.k2
      have m2 := HN.out.m2
      show wrap64 ((n.K : Int) + (n.M : Int)) = (n.K : Int) + (n.M : Int)
      exact IntWalk.wrap64_in _ ⟨by omega, by omega⟩)
    have q4 : ¬ (l : Int) = wrap64 (n.ge.k + n.ge.m) := by rw [HQ.out]; exact q3
    clear q3
    go_wp2
    go_ret2
    exact ⟨rfl, HC.out⟩
set_option maxHeartbeats 12800000 in
theorem rstripe_yes (A : Option Addr) (C : Nat) (vol no : Int) (n : Gn) (a s : Nat) (L : Nat → Nat) (Z D : Nat → Nat → Nat) (w : World) (hn : n.Ok) (ha : a ≤ 1) (hs : s < n.S) (hv : 0 ≤ vol ∧ vol ≤ 4294967295) (hno : 0 ≤ no ∧ no ≤ 4294967295) (hl : MatV w (.slice A n.q C) n.q L Z)
    (hD : n.K ≤ (idx (lftL vol no (frsN n a s) L Z) n.q).length → DataOf (lftL vol no (frsN n a s) L Z) n.q n.K 228 (lftX Z) D) :
    Calls Tryz.prog 17 #[.slice A n.q C, .int .i64 vol, .agg (geC n.ge), .int .i64 (a : Int), .int .i64 (s : Int), .int .i64 no] w (StpPost n.q n.K (lftL vol no (frsN n a s) L Z) D w) := by
  obtain ⟨w1, H, hR⟩ := geR w n.ge
  have HR := Lib.hid hR
  have HX := Lib.hid hR.x
  obtain ⟨x0, x1, x2, x3⟩ := hR.x
  have HF := Lib.hid (rfirst_yes n a s w1 hn ha hs)
  have HV := Lib.hid (fun w => w12_any vol w)
  have HNO := Lib.hid (fun w => w12_any no w)
  rw [decide_eq_true hv] at HV
  rw [decide_eq_true hno] at HNO
  obtain ⟨q, hq⟩ : ∃ q, q = n.q := ⟨_, rfl⟩
  obtain ⟨at0, hat⟩ : ∃ at0, at0 = frsN n a s := ⟨_, rfl⟩
  obtain ⟨Lf, hLf⟩ : ∃ Lf, Lf = lftL vol no at0 L Z := ⟨_, rfl⟩
  have hq1 := hn.q1
  have hq2 := hn.q2
  have hfl := frsN_lt hn ha hs (i := 0) (by omega)
  have htt := hn.tot2
  rw [← hat, ← hLf, ← hq] at hD ⊢
  rw [← hat] at HF hfl
  rw [← hq] at hq1 hq2 hl
  have HK : Hid (1 ≤ n.K ∧ n.K ≤ q) := Lib.hid ⟨hn.k1, by rw [hq]; unfold Gn.q; omega⟩
  have hq3 : (q : Int) ≤ 24 := by omega
  have hq0 : (0 : Int) ≤ (q : Int) := Int.natCast_nonneg _
  have ha0 : (0 : Int) ≤ (at0 : Int) := Int.natCast_nonneg _
  have ha1 : (at0 : Int) ≤ 2564 := by omega
  have hq4 : (q : Int) ≤ 140737488351232 := by omega
  have hq5 : q ≤ 140737488351232 := by omega
  have hmk := run_make_row' (P := Tryz.prog) 37 24 (.slice none 0 0) 24 Tryz.underlying37 Tryz.info24 rfl .i64 .i64 q (by omega) (by omega)
  have hsum : wrap64 (n.ge.k + n.ge.m) = (q : Int) := by
    have k2 := hn.k2
    have m2 := hn.m2
    show wrap64 ((n.K : Int) + (n.M : Int)) = (q : Int)
    rw [IntWalk.wrap64_in _ ⟨by omega, by omega⟩, hq]
    unfold Gn.q
    omega
  have hfk : lftL vol no at0 L Z = Lf := hLf.symm
  have HLf := Lib.hid hLf
  have HLG : Hid (0 < (idx Lf q).length → longZ Lf q = 228) := Lib.hid (by rw [hLf]; exact fun h => lft_long h)
  have HFT : Hid (Fits Lf q) := Lib.hid (by rw [hLf]; exact lft_fits q)
  have HL := Lib.hid hl
  have HD := Lib.hid hD
  have HQ := Lib.hid hq
  have HSM := Lib.hid hsum
  clear hR hn ha hs hv hno hl hD hq hat hLf hfl htt hq1 hq2 hfk
  go_enter Tryz.func17, Tryz.ntmps17
  go_wp2_with (first | ((with_reducible refine wpList_isOp (.box 23 (.tmp 2)) rfl ?_); refine wpList_boxing _ w1 rfl 23 (.tmp 2) rfl (geC n.ge) H rfl (by exact HR.out.sz) (by exact HR.out.al) ?_) | fail)
  refine HF.out.mono ?_
  rintro e w2 ⟨rfl, hc2⟩
  have HC := Lib.hid (HR.out.ch.trans hc2)
  clear x0 x1 x2 x3
  obtain ⟨x0, x1, x2, x3⟩ := HX.out.gr hc2
  have HC12 := Lib.hid hc2
  clear hc2
  go_wp2_with fail
  refine (HV.out _).mono ?_
  rintro e w3 ⟨rfl, rfl⟩
  go_wp2_with fail
  refine (HNO.out _).mono ?_
  rintro e w3 ⟨rfl, rfl⟩
  have HG0 := Lib.hid (GotV.start w2 q Lf (lftX Z))
  obtain ⟨g, hg⟩ : ∃ g, g = w2.heap.size := ⟨_, rfl⟩
  rw [← hg] at HG0
  go_wp2_with fail
  rw [hsum, ← hg]
  clear hsum hmk hg
  go_loopw [17, 18, 19, 54, 55, 56, 57, 58, 59, 60, 61, 62, 63, 64, 65, 66, 67, 68, 69, 70, 71, 72, 73, 74, 75, 76, 77, 78, 79, 80, 81, 82, 83, 84, 85, 86, 87, 88, 89, 90, 91, 92, 93, 94, 95, 96, 97, 98, 99, 100, 101, 102, 103, 104, 105] (fun i _ _ _ _ _ _ _ _ _ _ _ _ _ _ _ _ _ _ _ _ _ _ _ _ _ _ _ _ _ _ _ _ _ _ _ _ _ _ _ _ _ _ _ _ _ _ _ _ _ _ _ _ _ _ wr => ∃ r : Nat, r ≤ q ∧ i = .int .i64 r ∧ Hid (GotV w2 wr g q r Lf (lftX Z))) (fun i _ _ _ _ _ _ _ _ _ _ _ _ _ _ _ _ _ _ _ _ _ _ _ _ _ _ _ _ _ _ _ _ _ _ _ _ _ _ _ _ _ _ _ _ _ _ _ _ _ _ _ _ _ _ _ => q - (intOf i).toNat)
  case atStart => exact ⟨0, Nat.zero_le _, rfl, HG0⟩
  case round =>
    obtain ⟨r, hr, rfl, HG⟩ := hrel
    clear HG0
    have r0 : (0 : Int) ≤ (r : Int) := Int.natCast_nonneg _
    obtain ⟨x0, x1, x2, x3⟩ := HX.out.gr (HC12.out.trans HG.out.ch)
    by_cases hlt : r < q
    · have r1 : (r : Int) < (q : Int) := by omega
      obtain ⟨b, o, A', C', hA, c1, hrow⟩ := mat_at2 HL.out hlt
      have hcw := HC.out.trans HG.out.ch
      have c1 := hcw.cell c1 (fun f => f)
      have hrow := hrow.gr hcw
      obtain ⟨lr, hlr⟩ : ∃ lr, lr = L r := ⟨_, rfl⟩
      obtain ⟨zr, hzr⟩ : ∃ zr, zr = Z r := ⟨_, rfl⟩
      have HZ : Hid (Lf r = if shrB vol no ((at0 : Int) + (r : Int)) lr zr then 228 else 0) := Lib.hid (by rw [HLf.out, hlr, hzr]; rfl)
      have HZX : Hid (∀ c, lftX Z r c = zr (24 + c) % 256) := Lib.hid (fun c => by rw [hzr]; rfl)
      rw [← hlr] at c1
      rw [← hlr, ← hzr] at hrow
      subst hA
      have HOP := Lib.hid (ropen_any A' lr C' zr wr hrow)
      clear hcw hrow hlr hzr
      go_wp2_with fail
      refine HOP.out.mono ?_
      rintro e w3 ⟨V, rfl, hb, hc3⟩
      obtain ⟨bk, hbk⟩ : ∃ bk, bk = openB lr zr V := ⟨_, rfl⟩
      rw [← hbk] at hb
      rw [← hbk]
      have hso := shr_open (vol := vol) (no := no) (ad := (at0 : Int) + (r : Int)) hbk
      obtain ⟨er, her⟩ : ∃ er, er = openQ lr zr := ⟨_, rfl⟩
      rw [← her] at hso
      rw [← her]
      obtain ⟨Ab, Cb, hbV, _⟩ := id hb.row
      obtain ⟨wz, wx, G, hVB⟩ := varBk (b := bk) ⟨_, _, _, hbV⟩ w3
      have d0 : wx.cell? ⟨G, 0, none⟩ = some (.int .i64 bk.kind) := blk_cell hVB.cx
      have d1 : wx.cell? ⟨G, 1, none⟩ = some (.int .i64 bk.vol) := blk_cell hVB.cx
      have d2 : wx.cell? ⟨G, 2, none⟩ = some (.int .i64 bk.addr) := blk_cell hVB.cx
      have d4 : wx.cell? ⟨G, 4, none⟩ = some (.int .i64 bk.seq) := blk_cell hVB.cx
      have d5 : wx.cell? ⟨G, 5, none⟩ = some (.slice Ab bk.len Cb) := by rw [← hbV]; exact blk_cell hVB.cx
      have HC3 := Lib.hid (hc3.trans hVB.ch)
      have HB3 := Lib.hid (hb.row.gr hVB.ch)
      rw [hbV] at HB3
      have HVB := Lib.hid hVB
      have HSO := Lib.hid hso
      have r2 : (r : Int) ≤ 24 := by omega
      clear hbk hb hc3 her hbV hVB hso HOP x0 x1 x2 x3
      rcases HSO.out with ⟨hne, hno⟩ | ⟨he0, hzz, hyes⟩
      · have HNO2 := Lib.hid hno
        clear hno HSO
        go_wp2_with (first
          | ((with_reducible refine wpList_isOp (.alloc 71) rfl ?_); refine wpList_making _ wz rfl 71 rfl (bkC bk0) G (zero_bk _) (by exact HVB.out.sz) (by exact HVB.out.al) ?_)
          | ((with_reducible refine wpList_isOp (.store 71 (.tmp 18) (.tmp 66)) rfl ?_); refine wpList_storing _ wx rfl 71 (.tmp 18) (.tmp 66) rfl (.agg (bkC bk)) ⟨G, 0, none⟩ rfl rfl (by exact HVB.out.st) ?_)
          | fail)
        go_roundw
        case rel => exact ⟨r + 1, by omega, by go_num, Lib.hid ((HG.out.gr (HC3.out)).skip (by rw [HZ.out, HNO2.out]; rfl))⟩
        case measure => simp [intOf]; omega
      · have HYES := Lib.hid hyes
        have HZZ := Lib.hid hzz
        subst he0
        clear hyes hzz HSO
        by_cases k1 : bk.kind = 4
        case neg =>
          have HF5 := Lib.hid (show fiveB vol no ((at0 : Int) + (r : Int)) bk = false by unfold fiveB; rw [decide_eq_false k1]; rfl)
          go_wp2_with (first
            | ((with_reducible refine wpList_isOp (.alloc 71) rfl ?_); refine wpList_making _ wz rfl 71 rfl (bkC bk0) G (zero_bk _) (by exact HVB.out.sz) (by exact HVB.out.al) ?_)
            | ((with_reducible refine wpList_isOp (.store 71 (.tmp 18) (.tmp 66)) rfl ?_); refine wpList_storing _ wx rfl 71 (.tmp 18) (.tmp 66) rfl (.agg (bkC bk)) ⟨G, 0, none⟩ rfl rfl (by exact HVB.out.st) ?_)
            | fail)
          go_roundw
          case rel => exact ⟨r + 1, by omega, by go_num, Lib.hid ((HG.out.gr (HC3.out)).skip (by rw [HZ.out, HYES.out, HF5.out]; rfl))⟩
          case measure => simp [intOf]; omega
        by_cases k2 : bk.vol = vol
        case neg =>
          have HF5 := Lib.hid (show fiveB vol no ((at0 : Int) + (r : Int)) bk = false by unfold fiveB; rw [decide_eq_true k1, decide_eq_false k2]; rfl)
          go_wp2_with (first
            | ((with_reducible refine wpList_isOp (.alloc 71) rfl ?_); refine wpList_making _ wz rfl 71 rfl (bkC bk0) G (zero_bk _) (by exact HVB.out.sz) (by exact HVB.out.al) ?_)
            | ((with_reducible refine wpList_isOp (.store 71 (.tmp 18) (.tmp 66)) rfl ?_); refine wpList_storing _ wx rfl 71 (.tmp 18) (.tmp 66) rfl (.agg (bkC bk)) ⟨G, 0, none⟩ rfl rfl (by exact HVB.out.st) ?_)
            | fail)
          go_roundw
          case rel => exact ⟨r + 1, by omega, by go_num, Lib.hid ((HG.out.gr (HC3.out)).skip (by rw [HZ.out, HYES.out, HF5.out]; rfl))⟩
          case measure => simp [intOf]; omega
        by_cases k3 : bk.addr = (at0 : Int) + (r : Int)
        case neg =>
          have HF5 := Lib.hid (show fiveB vol no ((at0 : Int) + (r : Int)) bk = false by unfold fiveB; rw [decide_eq_true k1, decide_eq_true k2, decide_eq_false k3]; rfl)
          go_wp2_with (first
            | ((with_reducible refine wpList_isOp (.alloc 71) rfl ?_); refine wpList_making _ wz rfl 71 rfl (bkC bk0) G (zero_bk _) (by exact HVB.out.sz) (by exact HVB.out.al) ?_)
            | ((with_reducible refine wpList_isOp (.store 71 (.tmp 18) (.tmp 66)) rfl ?_); refine wpList_storing _ wx rfl 71 (.tmp 18) (.tmp 66) rfl (.agg (bkC bk)) ⟨G, 0, none⟩ rfl rfl (by exact HVB.out.st) ?_)
            | fail)
          go_roundw
          case rel => exact ⟨r + 1, by omega, by go_num, Lib.hid ((HG.out.gr (HC3.out)).skip (by rw [HZ.out, HYES.out, HF5.out]; rfl))⟩
          case measure => simp [intOf]; omega
        by_cases k4 : bk.seq = no
        case neg =>
          have HF5 := Lib.hid (show fiveB vol no ((at0 : Int) + (r : Int)) bk = false by unfold fiveB; rw [decide_eq_true k1, decide_eq_true k2, decide_eq_true k3, decide_eq_false k4]; rfl)
          go_wp2_with (first
            | ((with_reducible refine wpList_isOp (.alloc 71) rfl ?_); refine wpList_making _ wz rfl 71 rfl (bkC bk0) G (zero_bk _) (by exact HVB.out.sz) (by exact HVB.out.al) ?_)
            | ((with_reducible refine wpList_isOp (.store 71 (.tmp 18) (.tmp 66)) rfl ?_); refine wpList_storing _ wx rfl 71 (.tmp 18) (.tmp 66) rfl (.agg (bkC bk)) ⟨G, 0, none⟩ rfl rfl (by exact HVB.out.st) ?_)
            | fail)
          go_roundw
          case rel => exact ⟨r + 1, by omega, by go_num, Lib.hid ((HG.out.gr (HC3.out)).skip (by rw [HZ.out, HYES.out, HF5.out]; rfl))⟩
          case measure => simp [intOf]; omega
        by_cases k5 : bk.len = 228
        case neg =>
          have HF5 := Lib.hid (show fiveB vol no ((at0 : Int) + (r : Int)) bk = false by unfold fiveB; rw [decide_eq_true k1, decide_eq_true k2, decide_eq_true k3, decide_eq_true k4, decide_eq_false k5]; rfl)
          go_wp2_with (first
            | ((with_reducible refine wpList_isOp (.alloc 71) rfl ?_); refine wpList_making _ wz rfl 71 rfl (bkC bk0) G (zero_bk _) (by exact HVB.out.sz) (by exact HVB.out.al) ?_)
            | ((with_reducible refine wpList_isOp (.store 71 (.tmp 18) (.tmp 66)) rfl ?_); refine wpList_storing _ wx rfl 71 (.tmp 18) (.tmp 66) rfl (.agg (bkC bk)) ⟨G, 0, none⟩ rfl rfl (by exact HVB.out.st) ?_)
            | fail)
          go_roundw
          case rel => exact ⟨r + 1, by omega, by go_num, Lib.hid ((HG.out.gr (HC3.out)).skip (by rw [HZ.out, HYES.out, HF5.out]; rfl))⟩
          case measure => simp [intOf]; omega
        have HF5 := Lib.hid (show fiveB vol no ((at0 : Int) + (r : Int)) bk = true by unfold fiveB; rw [decide_eq_true k1, decide_eq_true k2, decide_eq_true k3, decide_eq_true k4, decide_eq_true k5]; rfl)
        have hgw := HG.out.gr HC3.out
        obtain ⟨⟨v0, e0⟩, e1⟩ := hgw.cell hlt
        have HLR : Hid (Lf r = 228) := Lib.hid (by rw [HZ.out, HYES.out, HF5.out]; rfl)
        rw [k5] at d5 HB3
        have HPUT : Hid (GotV w2 (wx.setCell ⟨g, r, none⟩ (.slice Ab 228 Cb)) g q (r + 1) Lf (lftX Z)) := Lib.hid (hgw.put hlt (by
          rw [HLR.out]
          refine HB3.out.congr fun c hc => ?_
          have hby := HB3.out.bytes c hc
          rw [HZX.out, HZZ.out]
          rw [HZZ.out] at hby
          exact (Nat.mod_eq_of_lt hby).symm))
        clear hgw
        go_wp2_with (first
          | ((with_reducible refine wpList_isOp (.alloc 71) rfl ?_); refine wpList_making _ wz rfl 71 rfl (bkC bk0) G (zero_bk _) (by exact HVB.out.sz) (by exact HVB.out.al) ?_)
          | ((with_reducible refine wpList_isOp (.store 71 (.tmp 18) (.tmp 66)) rfl ?_); refine wpList_storing _ wx rfl 71 (.tmp 18) (.tmp 66) rfl (.agg (bkC bk)) ⟨G, 0, none⟩ rfl rfl (by exact HVB.out.st) ?_)
          | fail)
        go_roundw
        case rel => exact ⟨r + 1, by omega, by go_num, HPUT⟩
        case measure => simp [intOf]; omega
    · have hrq : r = q := by omega
      have r1 : ¬ (r : Int) < (q : Int) := by omega
      rw [hrq] at HG
      have HDC := Lib.hid (rdecode_any g 0 q q n.K Lf (lftX Z) D (lftX_b Z) wr HK.out.1 HK.out.2 (by omega) (HG.out.mat (by omega)) (fun _ h => by rw [HLG.out (Nat.lt_of_lt_of_le HK.out.1 h)]; exact HD.out h))
      have HCG := Lib.hid (HC.out.trans HG.out.ch)
      clear hrq
      go_wp2_with fail
      refine HDC.out.mono ?_
      rintro e w3 (⟨hno, _⟩ | ⟨_, hlo, rfl, hc3⟩ | ⟨_, hok, v, rfl, hm, hc3⟩)
      · exact absurd HFT.out hno
      · have HE := Lib.hid (HCG.out.trans hc3)
        have HLO := Lib.hid hlo
        clear hlo hc3 x0 x1 x2 x3
        go_wp2
        go_ret2
        exact Or.inr ⟨HLO.out, rfl, HE.out⟩
      · have HE := Lib.hid (HCG.out.trans hc3)
        have HOK := Lib.hid hok
        have HM := Lib.hid hm
        clear hok hm hc3 x0 x1 x2 x3
        go_wp2
        go_ret2
        exact Or.inl ⟨HOK.out, _, rfl, by have h := HM.out; rw [HLG.out (Nat.lt_of_lt_of_le HK.out.1 HOK.out)] at h; exact h, HE.out⟩
end Go.Proofs.YtlbdopcchoklhaaGreat

namespace Go.Proofs.YtlbdopcchoklhaaGreat
open Go.RowKit
set_option linter.unusedVariables false
set_option maxRecDepth 100000
set_option linter.unusedSimpArgs false

set_option maxHeartbeats 3200000 in
theorem sstripe_no (A : Option Addr) (l C : Nat) (vol : Int) (g : Ge) (a s no : Int) (w : World) (h : stpB vol g a s no l = false) (hl : l ≤ 140737488351232) : Calls Tryz.prog 16 #[.slice A l C, .int .i64 vol, .agg (geC g), .int .i64 a, .int .i64 s, .int .i64 no] w (ErrPost 1 w) := by
  obtain ⟨w1, H, hR⟩ := geR w g
  have HR := Lib.hid hR
  have HX := Lib.hid hR.x
  obtain ⟨x0, x1, x2, x3⟩ := hR.x
  have HM := Lib.hid (snmay_any vol g a s 0 no w1)
  cases hm : smayB vol g a s 0 no with
  | false =>
    rw [hm] at HM
    clear h hm hR
    go_enter Tryz.func16, Tryz.ntmps16
    go_wp2_with (first | ((with_reducible refine wpList_isOp (.box 23 (.tmp 2)) rfl ?_); refine wpList_boxing _ w1 rfl 23 (.tmp 2) rfl (geC g) H rfl (by exact HR.out.sz) (by exact HR.out.al) ?_) | fail)
    refine HM.out.mono ?_
    rintro e w2 ⟨rfl, hc2⟩
    have HC := Lib.hid (HR.out.ch.trans hc2)
    clear hc2 x0 x1 x2 x3
    go_wp2
    go_ret2
    exact ⟨rfl, HC.out⟩
  | true =>
    rw [hm] at HM
    have hmm : frsB g a s = true ∧ wordB vol = true ∧ wordB no = true := by
      unfold smayB at hm
      simp only [Bool.and_eq_true] at hm
      exact ⟨hm.1, hm.2.1, hm.2.2.2⟩
    obtain ⟨n, x, y, hn, rfl, rfl, rfl, hx, hy⟩ := frsB_nat hmm.1
    have hq : ¬ (l : Int) = (n.q : Int) := fun e => by
      unfold stpB at h
      rw [hmm.1, hmm.2.1, hmm.2.2, decide_eq_true (show (l : Int) = n.ge.k + n.ge.m by rw [e]; unfold Gn.q; rfl)] at h
      cases h
    have hsm := sum_km hn
    obtain ⟨q, hqe⟩ : ∃ q, q = n.q := ⟨_, rfl⟩
    rw [← hqe] at hsm hq
    have q4 : ¬ (l : Int) = wrap64 (n.ge.k + n.ge.m) := by rw [hsm]; exact hq
    have HQ4 := Lib.hid q4
    clear h hm hR hmm hn hx hy hqe hsm hq q4
    go_enter Tryz.func16, Tryz.ntmps16
    go_wp2_with (first | ((with_reducible refine wpList_isOp (.box 23 (.tmp 2)) rfl ?_); refine wpList_boxing _ w1 rfl 23 (.tmp 2) rfl (geC n.ge) H rfl (by exact HR.out.sz) (by exact HR.out.al) ?_) | fail)
    refine HM.out.mono ?_
    rintro e w2 ⟨rfl, hc2⟩
    have HC := Lib.hid (HR.out.ch.trans hc2)
    clear x0 x1 x2 x3
    obtain ⟨x0, x1, x2, x3⟩ := HX.out.gr hc2
    clear hc2
    have q4 := HQ4.out
    go_wp2
    go_ret2
    exact ⟨rfl, HC.out⟩
end Go.Proofs.YtlbdopcchoklhaaGreat

namespace Go.Proofs.YtlbdopcchoklhaaGreat
open Go.ChangeShapes Go.WideShapes Go.ChangeAt Go.RowKit Go.Deep
set_option linter.unusedVariables false
set_option maxRecDepth 100000

theorem open_structsC {α : Type} {H : Type} {enc : TypeId × Value → H} {W : World} {v : Value} {d : DataW H} {p : List MemPlace} {T S : TypeId} (k : Nat) (hS : Tryz.prog.underlying S = some (.slice T)) (hT : Tryz.prog.cellsOf T = k) (h0 : 0 < k) (at' : Nat → Nat → α → Prop) (a0 : α)
    (each : ∀ (cs : List Value) (y : DataW H × List MemPlace) (fuel : Nat), cs.length = k → DataW.trod enc Tryz.prog W 0 (fun _ => true) true fuel T cs = some y → ∃ q : α, ∀ b o, (∀ j u, cs[j]? = some u → W.cell? ⟨b, o + j, none⟩ = some u) → at' b o q)
    (hv : ∃ a len cap, v = .slice a len cap) (h : DataW.Trod enc Tryz.prog W 0 (fun _ => true) true S v d p) :
    ∃ (A : Option Addr) (C m : Nat) (F : Nat → α), v = .slice A m C ∧ m ≤ C ∧ m ≤ 9223372036854775807 ∧ (0 < m → ∃ b o, A = some ⟨b, o, none⟩ ∧ ∀ c, c < m → at' b (o + c * k) (F c)) := by
  obtain ⟨a0', len, cap, rfl⟩ := hv
  obtain ⟨fuel, hf⟩ := h
  rcases open_slice hS hf with ⟨hcs0, hx⟩ | ⟨a, len', cap', m, n, D, Pl, hcs0, _, hl, hm, hmm, hx, hi⟩
  · simp [Value.cells] at hcs0
    obtain ⟨rfl, rfl, rfl⟩ := hcs0
    exact ⟨none, 0, 0, fun _ => a0, rfl, Nat.le_refl _, by omega, fun h => absurd h (Nat.lt_irrefl 0)⟩
  · simp [Value.cells] at hcs0
    obtain ⟨rfl, rfl, rfl⟩ := hcs0
    simp only [if_true] at hmm
    have one : ∀ i, i < len → ∃ q : α, ∀ b o, a = ⟨b, o, none⟩ → at' b (o + i * k) q := fun i hil => by
      obtain ⟨cs', hc, ht⟩ := hi i (by omega)
      rw [hT] at hc
      obtain ⟨_, hcl, hat⟩ := World.cells?_some hc
      obtain ⟨q, hq⟩ := each cs' _ n hcl ht
      refine ⟨q, fun b o hao => hq b _ fun j u hu => ?_⟩
      subst hao
      have hj : j < k := by rw [← hcl]; exact (List.getElem?_eq_some_iff.1 hu).1
      have := hat j hj
      rw [add_pl, add_pl, hu] at this
      exact this
    have first : 0 < len → ∃ b o, a = ⟨b, o, none⟩ := fun hlen => by
      obtain ⟨cs', hc, _⟩ := hi 0 (by omega)
      rw [hT] at hc
      obtain ⟨_, hcl, hat⟩ := World.cells?_some hc
      have := hat 0 (by omega)
      rw [Nat.zero_mul, List.getElem?_eq_getElem (by omega)] at this
      obtain ⟨b, o, sp⟩ := a
      have hs : sp = none := by simpa [Addr.add] using World.cell?_spot this
      exact ⟨b, o, by rw [hs]⟩
    have ch : ∀ i, ∃ q : α, i < len → ∀ b o, a = ⟨b, o, none⟩ → at' b (o + i * k) q := fun i => by
      by_cases hil : i < len
      · obtain ⟨q, hq⟩ := one i hil; exact ⟨q, fun _ => hq⟩
      · exact ⟨a0, fun h => absurd h hil⟩
    obtain ⟨F, hF⟩ := Classical.axiomOfChoice ch
    refine ⟨some a, cap, len, F, rfl, hl, by unfold maxLen at hm; omega, fun h0 => ?_⟩
    obtain ⟨b, o, rfl⟩ := first h0
    exact ⟨b, o, rfl, fun c hc => hF c hc b o rfl⟩
/-- A row of bytes. -/
structure Br where
  A : Option Addr
  n : Nat
  C : Nat
  z : Nat → Nat
def BrAt (w : World) (b o : Nat) (q : Br) : Prop := w.cell? ⟨b, o, none⟩ = some (.slice q.A q.n q.C) ∧ q.n ≤ q.C ∧ q.n ≤ 9223372036854775807 ∧ (0 < q.n → ∃ b' o', q.A = some ⟨b', o', none⟩ ∧ ∀ c, c < q.n → w.cell? ⟨b', o' + c, none⟩ = some (.int .u8 (q.z c : Int)) ∧ q.z c < 256)
theorem br_of {H : Type} {enc : TypeId × Value → H} {W : World} {v : Value} {x : DataW H × List MemPlace} {fuel : Nat} (h : DataW.trod enc Tryz.prog W 0 (fun _ => true) true fuel /-t-/24 [v] = some x) : ∃ (A : Option Addr) (n C : Nat) (z : Nat → Nat), v = .slice A n C ∧ n ≤ C ∧ n ≤ 9223372036854775807 ∧ (0 < n → ∃ b' o', A = some ⟨b', o', none⟩ ∧ ∀ c, c < n → W.cell? ⟨b', o' + c, none⟩ = some (.int .u8 (z c : Int)) ∧ z c < 256) := by
  rcases open_ints Tryz.underlying24 Tryz.underlying5 cells5 h with ⟨hcs0, _⟩ | ⟨a, len, cap, zs, hcs0, _, hl, hm, hzl, _, hcell, hwf⟩
  · simp at hcs0
    exact ⟨none, 0, 0, fun _ => 0, hcs0, Nat.le_refl _, by omega, fun h => absurd h (Nat.lt_irrefl 0)⟩
  · simp at hcs0
    simp only [if_true] at hzl
    refine ⟨some a, len, cap, fun c => (zs.getD c 0).toNat, hcs0, hl, by unfold maxLen at hm; omega, fun h0 => ?_⟩
    obtain ⟨b, o, rfl⟩ := addr_none (hcell 0 (by omega))
    refine ⟨b, o, rfl, fun c hc => ?_⟩
    have hcc := hcell c (by omega)
    rw [add_pl] at hcc
    have hb := b8 (hwf (zs.getD c 0) (by
      rw [List.getD, List.getElem?_eq_getElem (show c < zs.length by omega)]
      exact List.getElem_mem _))
    have e : (((zs.getD c 0).toNat : Nat) : Int) = zs.getD c 0 := by omega
    exact ⟨by show _ = some (Value.int .u8 (((zs.getD c 0).toNat : Nat) : Int)); rw [e]; exact hcc, by show (zs.getD c 0).toNat < 256; omega⟩
structure RowBs (w : World) (A : Option Addr) (m C : Nat) (g : Nat → Br) : Prop where
  cap : m ≤ C
  le : m ≤ 9223372036854775807
  at' : 0 < m → ∃ b o, A = some ⟨b, o, none⟩ ∧ ∀ c, c < m → BrAt w b (o + c) (g c)
theorem cells_bs : Tryz.prog.cellsOf /-t-/24 = 1 := by kernel_rfl
theorem open_rows {H : Type} {enc : TypeId × Value → H} {W : World} {v : Value} {d : DataW H} {p : List MemPlace} (hv : ∃ a len cap, v = .slice a len cap) (h : DataW.Trod enc Tryz.prog W 0 (fun _ => true) true /-t-/37 v d p) :
    ∃ (A : Option Addr) (C m : Nat) (g : Nat → Br), v = .slice A m C ∧ RowBs W A m C g := by
  obtain ⟨A, C, m, g, rfl, h0, h1, h2⟩ := open_structsC (α := Br) 1 Tryz.underlying37 cells_bs (by decide) (BrAt W) ⟨none, 0, 0, fun _ => 0⟩ (fun cs y fuel hcl ht => by
    match cs, hcl with
    | [x0], _ =>
      obtain ⟨qA, qn, qC, qz, rfl, e2⟩ := br_of (x := y) ht
      exact ⟨⟨qA, qn, qC, qz⟩, fun b o hc => ⟨hc 0 _ rfl, e2⟩⟩) hv h
  refine ⟨A, C, m, g, rfl, h0, h1, fun hm => ?_⟩
  obtain ⟨b, o, hA, hc⟩ := h2 hm
  exact ⟨b, o, hA, fun c hcm => by have := hc c hcm; rwa [Nat.mul_one] at this⟩
theorem BrAt.gr {w w' : World} {b o : Nat} {q : Br} (h : BrAt w b o q) (k : Ch (fun _ => False) w w') : BrAt w' b o q :=
  ⟨k.cell h.1 (fun f => f), h.2.1, h.2.2.1, fun h0 => by
    obtain ⟨b', o', hA, hc⟩ := h.2.2.2 h0
    exact ⟨b', o', hA, fun c hcm => ⟨k.cell (hc c hcm).1 (fun f => f), (hc c hcm).2⟩⟩⟩
theorem RowBs.gr {w w' : World} {A : Option Addr} {m C : Nat} {g : Nat → Br} (h : RowBs w A m C g) (k : Ch (fun _ => False) w w') : RowBs w' A m C g :=
  ⟨h.cap, h.le, fun h0 => by
    obtain ⟨b, o, hA, hc⟩ := h.at' h0
    exact ⟨b, o, hA, fun c hcm => (hc c hcm).gr k⟩⟩
theorem RowBs.bs {w : World} {A : Option Addr} {m C : Nat} {g : Nat → Br} (h : RowBs w A m C g) (hm : m ≤ 1000) (hg : ∀ c, c < m → (g c).n ≤ 600) : BsV w A m C (fun c => (g c).n) (fun c => (g c).z) :=
  ⟨by omega, h.cap, fun h0 => by
    obtain ⟨b, o, hA, hc⟩ := h.at' h0
    refine ⟨b, o, hA, fun c hcm => ?_⟩
    obtain ⟨h1, h2, _, h3⟩ := hc c hcm
    exact ⟨(g c).A, (g c).C, h1, (g c).A, (g c).C, rfl, ⟨by have := hg c hcm; omega, h2⟩, h3⟩⟩
/-- Rows of which the lengths alone are looked at. -/
structure LsV (w : World) (A : Option Addr) (k C : Nat) (N : Nat → Nat) : Prop where
  le : k ≤ 9223372036854775807
  cap : k ≤ C
  at' : 0 < k → ∃ b o, A = some ⟨b, o, none⟩ ∧ ∀ c, c < k → ∃ A' C', w.cell? ⟨b, o + c, none⟩ = some (.slice A' (N c) C') ∧ N c ≤ 9223372036854775807
theorem RowBs.ls {w : World} {A : Option Addr} {m C : Nat} {g : Nat → Br} (h : RowBs w A m C g) : LsV w A m C (fun c => (g c).n) :=
  ⟨h.le, h.cap, fun h0 => by
    obtain ⟨b, o, hA, hc⟩ := h.at' h0
    exact ⟨b, o, hA, fun c hcm => ⟨_, _, (hc c hcm).1, (hc c hcm).2.2.1⟩⟩⟩
theorem RowBs.bs' {w : World} {A : Option Addr} {m C : Nat} {g : Nat → Br} (h : RowBs w A m C g) (hm : m ≤ 1000) (hg : ∀ c, c < m → (g c).n ≤ 100000) : BsV w A m C (fun c => (g c).n) (fun c => (g c).z) :=
  ⟨by omega, h.cap, fun h0 => by
    obtain ⟨b, o, hA, hc⟩ := h.at' h0
    refine ⟨b, o, hA, fun c hcm => ?_⟩
    obtain ⟨h1, h2, _, h3⟩ := hc c hcm
    exact ⟨(g c).A, (g c).C, h1, (g c).A, (g c).C, rfl, ⟨by have := hg c hcm; omega, h2⟩, h3⟩⟩
#print axioms open_rows
#print axioms RowBs.bs
end Go.Proofs.YtlbdopcchoklhaaGreat
namespace Go.Proofs.YtlbdopcchoklhaaGreat
open Go.RowKit
set_option linter.unusedVariables false
set_option maxRecDepth 100000
set_option linter.unusedSimpArgs false

/-- The program's Stripe answers as the document's will. -/
def StpTwo (args : Array Value) (w' : World) (e : Ending) (w'' : World) : Prop :=
  (∃ q Y v, e = .returned (.tuple #[v, .int .i64 0]) ∧ MatV w'' v q (fun _ => 228) Y ∧ Ch (fun _ => False) w' w'' ∧ ∀ w3, Ch (fun _ => False) w'' w3 → Calls Tryz.prog 17 args w3 (MatPost q 228 Y w3)) ∨
  (∃ k : Int, k ≠ 0 ∧ ErrPost k w' e w'' ∧ ∀ w3, Ch (fun _ => False) w'' w3 → Calls Tryz.prog 17 args w3 (ErrPost k w3))
theorem stp_two (A : Option Addr) (m C : Nat) (vol : Int) (g : Ge) (a s no : Int) (L : Nat → Nat) (Z : Nat → Nat → Nat) (w : World) (hm : m ≤ 10) (hl : MatV w (.slice A m C) m L Z) :
    ∀ w', Ch (fun _ => False) w w' → Calls Tryz.prog 16 #[.slice A m C, .int .i64 vol, .agg (geC g), .int .i64 a, .int .i64 s, .int .i64 no] w' (StpTwo #[.slice A m C, .int .i64 vol, .agg (geC g), .int .i64 a, .int .i64 s, .int .i64 no] w') := by
  intro w' k
  cases h : stpB vol g a s no m with
  | false =>
    refine (sstripe_no A m C vol g a s no w' h (by omega)).mono ?_
    intro e w'' he
    exact Or.inr ⟨1, by decide, he, fun w3 _ => rstripe_no A m C vol g a s no w3 h (by omega)⟩
  | true =>
    obtain ⟨h1, h2, h3, h4⟩ := stpB_yes h
    obtain ⟨n, x, y, hn, rfl, rfl, rfl, hx, hy⟩ := frsB_nat h1
    have hv := wordB_iff.1 h2
    have ho := wordB_iff.1 h3
    have hq : m = n.q := by
      have : (m : Int) = (n.K : Int) + (n.M : Int) := h4
      unfold Gn.q
      omega
    subst hq
    refine (sstripe_yes A C vol no n x y L Z w' hn hx hy hv ho (hl.gr k)).mono ?_
    rintro e w'' (⟨hle, D, hD, v, rfl, hmv, hc⟩ | ⟨hlt, he⟩)
    · refine Or.inl ⟨n.q, sharesZ n.K D, v, rfl, hmv, hc, fun w3 k3 => ?_⟩
      refine (rstripe_yes A C vol no n x y L Z D w3 hn hx hy hv ho (hl.gr (k.trans (hc.trans k3))) (fun _ => hD)).mono ?_
      rintro e w4 (⟨_, hp⟩ | ⟨hlt, _⟩)
      · exact hp
      · omega
    · refine Or.inr ⟨22, by decide, he, fun w3 k3 => ?_⟩
      refine (rstripe_yes A C vol no n x y L Z (fun _ _ => 0) w3 hn hx hy hv ho (hl.gr (k.trans (he.2.trans k3))) (fun h => absurd h (by omega))).mono ?_
      rintro e w4 (⟨hle, _⟩ | ⟨_, hp⟩)
      · omega
      · exact hp
set_option maxHeartbeats 6400000 in
theorem snapStripes_short (vol : Int) (g : Ge) (a s no : Int) (A : Option Addr) (l C : Nat) (w : World) (h : smlB g = false ∨ (smlB g = true ∧ (10 : Int) < (l : Int))) : Calls Tryz.prog 4 #[.slice A l C, .int .i64 vol, .agg (geC g), .int .i64 a, .int .i64 s, .int .i64 no] w (Told w) := by
  obtain ⟨w1, H, hR⟩ := geR w g
  obtain ⟨x0, x1, x2, x3⟩ := hR.x
  have HR := Lib.hid hR
  have HX := Lib.hid hR.x
  have HUP := Lib.hid (fun w => snawake_any w)
  have HSM := Lib.hid (fun w => small12_any g w)
  obtain ⟨sm, hsm⟩ : ∃ sm, sm = smlB g := ⟨_, rfl⟩
  rw [← hsm] at HSM h
  clear hR hsm
  go_enter Tryz.func4, Tryz.ntmps4
  go_wp2_with (first | ((with_reducible refine wpList_isOp (.box 23 (.tmp 2)) rfl ?_); refine wpList_boxing _ w1 rfl 23 (.tmp 2) rfl (geC g) H rfl (by exact HR.out.sz) (by exact HR.out.al) ?_) | fail)
  refine (HUP.out _).mono ?_
  rintro e w2 ⟨rfl, hc2⟩
  have HC2 := Lib.hid (HR.out.ch.trans hc2)
  clear x0 x1 x2 x3
  obtain ⟨x0, x1, x2, x3⟩ := HX.out.gr hc2
  clear hc2
  go_wp2_with fail
  refine (HSM.out _).mono ?_
  rintro e w3 ⟨rfl, hc3⟩
  have HC3 := Lib.hid (HC2.out.trans hc3)
  clear hc3 x0 x1 x2 x3
  rcases h with rfl | ⟨rfl, hl⟩
  · go_wp2
    go_ret
    exact ⟨rfl, HC3.out⟩
  · go_wp2
    go_ret
    exact ⟨rfl, HC3.out⟩
theorem rowBs_mat {w : World} {A : Option Addr} {m C : Nat} {q : Nat → Br} (h : RowBs w A m C q) (hm : m ≤ 10) (hq : ∀ c, c < m → (q c).n ≤ 300) : MatV w (.slice A m C) m (fun r => (q r).n) (fun r => (q r).z) := by
  refine ⟨_, _, rfl, ⟨by omega, h.cap⟩, fun h0 => ?_⟩
  obtain ⟨b, o, hA, hc⟩ := h.at' h0
  refine ⟨b, o, hA, fun r hr => ?_⟩
  obtain ⟨c1, c2, _, c4⟩ := hc r hr
  exact ⟨_, c1, _, _, rfl, ⟨by have := hq r hr; dsimp only; omega, c2⟩, c4⟩
set_option maxHeartbeats 12800000 in
theorem snapStripes_long {A : Option Addr} {m C : Nat} {q : Nat → Br} (vol : Int) (g : Ge) (a s no : Int) (w : World) (hs : smlB g = true) (hl : m ≤ 10) (hb : RowBs w A m C q) : Calls Tryz.prog 4 #[.slice A m C, .int .i64 vol, .agg (geC g), .int .i64 a, .int .i64 s, .int .i64 no] w (Told w) := by
  obtain ⟨w1, H, hR⟩ := geR w g
  obtain ⟨x0, x1, x2, x3⟩ := hR.x
  have HR := Lib.hid hR
  have HX := Lib.hid hR.x
  have HUP := Lib.hid (fun w => snawake_any w)
  have HSM := Lib.hid (fun w => small12_any g w)
  rw [hs] at HSM
  have HB := Lib.hid hb
  have HM := Lib.hid hl
  have l0 : (0 : Int) ≤ (m : Int) := Int.natCast_nonneg _
  have l1 : ¬ (10 : Int) < (m : Int) := by omega
  have l2 : (m : Int) ≤ 10 := by omega
  clear hR hb hs hl
  go_enter Tryz.func4, Tryz.ntmps4
  go_wp2_with (first | ((with_reducible refine wpList_isOp (.box 23 (.tmp 2)) rfl ?_); refine wpList_boxing _ w1 rfl 23 (.tmp 2) rfl (geC g) H rfl (by exact HR.out.sz) (by exact HR.out.al) ?_) | fail)
  refine (HUP.out _).mono ?_
  rintro e w2 ⟨rfl, hc2⟩
  have HC2 := Lib.hid (HR.out.ch.trans hc2)
  clear x0 x1 x2 x3
  obtain ⟨x0, x1, x2, x3⟩ := HX.out.gr hc2
  have HX2 := Lib.hid (HX.out.gr hc2)
  clear hc2
  go_wp2_with fail
  refine (HSM.out _).mono ?_
  rintro e w3 ⟨rfl, hc3⟩
  have HC3 := Lib.hid (HC2.out.trans hc3)
  have HX3 := Lib.hid (HX2.out.gr hc3)
  clear hc3 x0 x1 x2 x3
  go_wp2_with fail
  clear l1
  go_loopw [12, 15, 36, 37, 38, 39, 40, 41, 42, 43, 44, 45, 46, 47] (fun _ i _ _ _ _ _ _ _ _ _ _ _ _ wr => ∃ k : Nat, k ≤ m ∧ i = .int .i64 k ∧ Hid (∀ c, c < k → (q c).n ≤ 300) ∧ wr = w3) (fun _ i _ _ _ _ _ _ _ _ _ _ _ _ _ => m - (intOf i).toNat)
  case atStart => exact ⟨0, Nat.zero_le _, rfl, Lib.hid (fun c hc => absurd hc (Nat.not_lt_zero c)), rfl⟩
  case round =>
    obtain ⟨k, hk, rfl, HQ, rfl⟩ := hrel
    have k0 : (0 : Int) ≤ (k : Int) := Int.natCast_nonneg _
    by_cases hlt : k < m
    · have k1 : (k : Int) < (m : Int) := by omega
      obtain ⟨b, o, rfl, hc⟩ := HB.out.at' (by omega)
      obtain ⟨c1, c2, c3, c4⟩ := hc k hlt
      have c1 := HC3.out.cell c1 (fun f => f)
      obtain ⟨qk, hqk⟩ : ∃ qk, qk = q k := ⟨_, rfl⟩
      rw [← hqk] at c1 c3
      have HQK := Lib.hid hqk
      have HLT := Lib.hid hlt
      by_cases hn : qk.n ≤ 300
      · have n1 : ¬ (300 : Int) < (qk.n : Int) := by omega
        have HN := Lib.hid hn
        clear hc c2 c3 c4 hqk hlt hn
        go_wp2_with fail
        go_roundw
        case rel => exact ⟨k + 1, HLT.out, by go_num, Lib.hid (fun c hc => by
          by_cases e : c = k
          · subst e; rw [← HQK.out]; exact HN.out
          · exact HQ.out c (by omega)), trivial⟩
        case measure => have := HLT.out; simp [intOf]; omega
      · have n1 : (300 : Int) < (qk.n : Int) := by omega
        clear hc c2 c3 c4 hqk hlt hn
        go_wp2
        go_ret
        exact ⟨rfl, HC3.out⟩
    · have hke : k = m := by omega
      have k1 : ¬ (k : Int) < (m : Int) := by omega
      rw [hke] at HQ
      have HST := Lib.hid (stp_two A m C vol g a s no _ _ w HM.out (rowBs_mat HB.out HM.out HQ.out) wr HC3.out)
      obtain ⟨x0, x1, x2, x3⟩ := HX3.out
      clear hke HQ
      go_wp2_with fail
      refine HST.out.mono ?_
      rintro e w5 (⟨nq, Y, v, rfl, hmv, hc5, hdoc⟩ | ⟨kk, hkk, ⟨rfl, hc5⟩, hdoc⟩)
      · have HDO := Lib.hid (hdoc w5 (Ch.refl _ _))
        have HMV := Lib.hid hmv
        have HC5 := Lib.hid (HC3.out.trans hc5)
        clear x0 x1 x2 x3
        obtain ⟨x0, x1, x2, x3⟩ := HX3.out.gr hc5
        clear hmv hc5 hdoc
        go_wp2_with fail
        refine HDO.out.mono ?_
        rintro e w6 ⟨u, rfl, hmu, hc6⟩
        have HSA := Lib.hid (same_anyF v u nq (fun _ => 228) Y w6 (HMV.out.gr hc6) hmu)
        have HC6 := Lib.hid (HC5.out.trans hc6)
        clear hmu hc6 x0 x1 x2 x3
        go_wp2_with fail
        refine HSA.out.mono ?_
        rintro e w7 ⟨rfl, nd, rfl⟩
        have HC7 := Lib.hid (HC6.out.trans ((Ch.refl _ w6).drewN nd))
        go_wp2
        go_ret
        exact ⟨rfl, HC7.out⟩
      · have HDO := Lib.hid (hdoc w5 (Ch.refl _ _))
        have HC5 := Lib.hid (HC3.out.trans hc5)
        clear x0 x1 x2 x3
        obtain ⟨x0, x1, x2, x3⟩ := HX3.out.gr hc5
        clear hc5 hdoc
        go_wp2_with fail
        refine HDO.out.mono ?_
        rintro e w6 ⟨rfl, hc6⟩
        have HSA := Lib.hid (same_anyF (.slice none 0 0) (.slice none 0 0) 0 (fun _ => 228) (fun _ _ => 0) w6 (nil_mat w6 _ _) (nil_mat w6 _ _))
        have HC6 := Lib.hid (HC5.out.trans hc6)
        clear hc6 x0 x1 x2 x3
        go_wp2_with fail
        refine HSA.out.mono ?_
        rintro e w7 ⟨rfl, nd, rfl⟩
        have HC7 := Lib.hid (HC6.out.trans ((Ch.refl _ w6).drewN nd))
        go_wp2
        go_ret
        exact ⟨rfl, HC7.out⟩
theorem snapStripes_of {A : Option Addr} {C m : Nat} {q : Nat → Br} (vol : Int) (g : Ge) (a s no : Int) (w : World) (hb : RowBs w A m C q) : Calls Tryz.prog 4 #[.slice A m C, .int .i64 vol, .agg (geC g), .int .i64 a, .int .i64 s, .int .i64 no] w (Told w) := by
  cases h : smlB g with
  | false => exact snapStripes_short vol g a s no A m C w (Or.inl h)
  | true =>
    by_cases hl : m ≤ 10
    · exact snapStripes_long vol g a s no w h hl hb
    · exact snapStripes_short vol g a s no A m C w (Or.inr ⟨h, by omega⟩)
#print axioms snapStripes_of
end Go.Proofs.YtlbdopcchoklhaaGreat
