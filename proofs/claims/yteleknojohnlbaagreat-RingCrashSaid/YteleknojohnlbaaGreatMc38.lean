/-
  law11.Blank, walked: a device whose sectors are all free.
-/
import Derived.Test.YteleknojohnlbaaGreatMc37
import Derived.Test.YteleknojohnlbaaGreatMc14
namespace Go.Proofs.YteleknojohnlbaaGreat
open Go.RowKit
set_option linter.unusedVariables false
set_option maxRecDepth 100000
set_option linter.unusedSimpArgs false
theorem One.cal2 {w0 w w1 : World} {B : Nat} {d d' : Dev} {r : Value} {F : FuncId} {args : Array Value} (h : One w0 B d w) (hc : Ch (fun _ => False) w w1) (g : ∀ p : Ph, p.B = B → DevIs w0.heap.size w1 p d → (∀ i, w.heap.size ≤ i → ¬ Foot p d i) → Calls Tryz.prog F args w1 (DPost w0.heap.size p d d' r w1)) : Calls Tryz.prog F args w1 (OneP w0 B d' r) := by
  obtain ⟨h1, p, h2, h3⟩ := h
  refine (g p h2 (h3.gr hc) (fun i hi hf => by have := (h3.foot hf).2; omega)).mono ?_
  intro e w' hp
  rw [← h2]
  exact hp.one (h3.gr hc) (h1.trans hc)
def fbV (vol a : Int) : Bk := ⟨1, vol, a, 0, 0, .slice none 0 0, 0, fun _ => 0⟩
theorem built_fb (vol a : Int) (w : World) : (Instr.build 80 #[(0, .int .i64 1), (1, .int .i64 vol), (2, .int .i64 a)]).run Tryz.prog w = .ok (.agg (bkC (fbV vol a))) w := run_build w _ _ _ (by kernel_rfl)
def blkOk (vol : Int) (g : Ge) : Bool := mayG g && (decide (g.wal ≤ 16) && wordS vol)
def secsG (g : Gn) : Nat := 4 + 2 * g.W + 2 * g.S * (g.K + g.M)
def BlankPost (vol : Int) (g : Ge) (w : World) (e : Ending) (w' : World) : Prop :=
  (blkOk vol g = false → e = .returned (.pointer none) ∧ Ch (fun _ => False) w w') ∧
  (∀ n : Gn, blkOk vol g = true → g = n.ge → ∃ B, e = .returned (.pointer (some ⟨B, 0, none⟩)) ∧ One w B (bkD vol (secsG n)) w')
set_option maxHeartbeats 6400000 in
theorem lawBlank_any (vol : Int) (g : Ge) (w : World) (hv : N64 vol) : Calls Tryz.prog 25 #[.int .i64 vol, .agg (geC g)] w (BlankPost vol g w) := by
  obtain ⟨w1, H, hR⟩ := geR w g
  obtain ⟨x0, x1, x2, x3⟩ := hR.x
  have HM := Lib.hid (rgmay_any g w1)
  have HR := Lib.hid hR
  clear hR
  cases hm : mayG g
  · have HB := Lib.hid (show blkOk vol g = false by unfold blkOk; rw [hm]; rfl)
    rw [hm] at HM
    clear hm
    go_enter Tryz.func25, Tryz.ntmps25
    go_wp2_with (first | ((with_reducible refine wpList_isOp (.box 23 (.tmp 1)) rfl ?_); refine wpList_boxing _ w1 rfl 23 (.tmp 1) rfl (geC g) H rfl (by exact HR.out.sz) (by exact HR.out.al) ?_) | fail)
    refine HM.out.mono ?_
    rintro e w2 ⟨rfl, hc⟩
    have HC := Lib.hid (HR.out.ch.trans hc)
    clear hc
    go_wp2
    go_ret
    exact ⟨fun _ => ⟨rfl, HC.out⟩, (fun n h => by rw [HB.out] at h; cases h)⟩
  rw [hm] at HM
  by_cases hw : 16 < g.wal
  · have HB := Lib.hid (show blkOk vol g = false by unfold blkOk; rw [hm, decide_eq_false (by omega)]; rfl)
    clear hm
    go_enter Tryz.func25, Tryz.ntmps25
    go_wp2_with (first | ((with_reducible refine wpList_isOp (.box 23 (.tmp 1)) rfl ?_); refine wpList_boxing _ w1 rfl 23 (.tmp 1) rfl (geC g) H rfl (by exact HR.out.sz) (by exact HR.out.al) ?_) | fail)
    refine HM.out.mono ?_
    rintro e w2 ⟨rfl, hc⟩
    have HC := Lib.hid (HR.out.ch.trans hc)
    obtain ⟨y0, y1, y2, y3⟩ := HR.out.x.gr hc
    clear hc x0 x1 x2 x3
    go_wp2
    go_ret
    exact ⟨fun _ => ⟨rfl, HC.out⟩, (fun n h => by rw [HB.out] at h; cases h)⟩
  by_cases hl : vol < 0
  · have HB := Lib.hid (show blkOk vol g = false by unfold blkOk wordS; rw [hm, decide_eq_true (show g.wal ≤ 16 by omega)]; show (true && (true && inB vol 0 4294967295)) = false; unfold inB; rw [decide_eq_false (by omega)]; rfl)
    clear hm
    go_enter Tryz.func25, Tryz.ntmps25
    go_wp2_with (first | ((with_reducible refine wpList_isOp (.box 23 (.tmp 1)) rfl ?_); refine wpList_boxing _ w1 rfl 23 (.tmp 1) rfl (geC g) H rfl (by exact HR.out.sz) (by exact HR.out.al) ?_) | fail)
    refine HM.out.mono ?_
    rintro e w2 ⟨rfl, hc⟩
    have HC := Lib.hid (HR.out.ch.trans hc)
    obtain ⟨y0, y1, y2, y3⟩ := HR.out.x.gr hc
    clear hc x0 x1 x2 x3
    go_wp2
    go_ret
    exact ⟨fun _ => ⟨rfl, HC.out⟩, (fun n h => by rw [HB.out] at h; cases h)⟩
  by_cases hl2 : 4294967295 < vol
  · have HB := Lib.hid (show blkOk vol g = false by unfold blkOk wordS; rw [hm, decide_eq_true (show g.wal ≤ 16 by omega)]; show (true && (true && inB vol 0 4294967295)) = false; unfold inB; rw [decide_eq_false (by omega)]; rfl)
    clear hm
    go_enter Tryz.func25, Tryz.ntmps25
    go_wp2_with (first | ((with_reducible refine wpList_isOp (.box 23 (.tmp 1)) rfl ?_); refine wpList_boxing _ w1 rfl 23 (.tmp 1) rfl (geC g) H rfl (by exact HR.out.sz) (by exact HR.out.al) ?_) | fail)
    refine HM.out.mono ?_
    rintro e w2 ⟨rfl, hc⟩
    have HC := Lib.hid (HR.out.ch.trans hc)
    obtain ⟨y0, y1, y2, y3⟩ := HR.out.x.gr hc
    clear hc x0 x1 x2 x3
    go_wp2
    go_ret
    exact ⟨fun _ => ⟨rfl, HC.out⟩, (fun n h => by rw [HB.out] at h; cases h)⟩
  · have HB := Lib.hid (show blkOk vol g = true by unfold blkOk wordS; rw [hm, decide_eq_true (show g.wal ≤ 16 by omega)]; exact inB_true.2 ⟨by omega, by omega⟩)
    obtain ⟨n, hn, rfl⟩ := may_nat hm
    have HVW := Lib.hid (show 0 ≤ vol ∧ vol ≤ 4294967295 from ⟨by omega, by omega⟩)
    have h1 := hn.w1
    have h2 := hn.w2
    have h3 := hn.s2
    have h4 := hn.k2
    have h5 := hn.m2
    have hmul : n.S * (n.K + n.M) ≤ 32 * 24 := Nat.mul_le_mul h3 (by omega)
    have hw' : (n.W : Int) ≤ 16 := by
      have : ¬ 16 < (n.W : Int) := hw
      omega
    obtain ⟨Q, hQ⟩ : ∃ Q, Q = n.K + n.M := ⟨_, rfl⟩
    obtain ⟨P, hP⟩ : ∃ P, P = 2 * n.S := ⟨_, rfl⟩
    have hPQ : P * Q ≤ 1536 := by
      rw [hP, hQ, Nat.mul_assoc]
      omega
    have ePQ : wrap64 ((P : Int) * (Q : Int)) = ((P * Q : Nat) : Int) := by
      rw [← Int.natCast_mul]
      exact IntWalk.wrap64_in _ ⟨by omega, by omega⟩
    obtain ⟨Z, hZ⟩ : ∃ Z, Z = P * Q := ⟨_, rfl⟩
    rw [← hZ] at ePQ hPQ
    have e1 : wrap64 (2 * (n.S : Int)) = (P : Int) := by rw [IntWalk.wrap64_in _ ⟨by omega, by omega⟩, hP]; omega
    have e2 : wrap64 ((n.K : Int) + (n.M : Int)) = (Q : Int) := by rw [IntWalk.wrap64_in _ ⟨by omega, by omega⟩, hQ]; omega
    obtain ⟨N, hN⟩ : ∃ N, N = secsG n := ⟨_, rfl⟩
    have hNe : N = 4 + 2 * n.W + Z := by rw [hN, hZ, hP, hQ]; rfl
    have hw2 : ¬ 16 < (n.W : Int) := hw
    clear hm hw hmul
    have x0 : w1.cell? ⟨H, 0, none⟩ = some (.int .i64 (n.W : Int)) := x0
    have x1 : w1.cell? ⟨H, 1, none⟩ = some (.int .i64 (n.S : Int)) := x1
    have x2 : w1.cell? ⟨H, 2, none⟩ = some (.int .i64 (n.K : Int)) := x2
    have x3 : w1.cell? ⟨H, 3, none⟩ = some (.int .i64 (n.M : Int)) := x3
    have HNE := Lib.hid hNe
    have HNN := Lib.hid hN
    clear hQ hP hZ hN hNe h3 h4 h5
    go_enter Tryz.func25, Tryz.ntmps25
    go_wp2_with (first | ((with_reducible refine wpList_isOp (.box 23 (.tmp 1)) rfl ?_); refine wpList_boxing _ w1 rfl 23 (.tmp 1) rfl (geC n.ge) H rfl (by exact HR.out.sz) (by exact HR.out.al) ?_) | fail)
    refine HM.out.mono ?_
    rintro e w2 ⟨rfl, hc⟩
    have HC := Lib.hid (HR.out.ch.trans hc)
    obtain ⟨y0, y1, y2, y3⟩ := HR.out.x.gr hc
    have x0 : w2.cell? ⟨H, 0, none⟩ = some (.int .i64 (n.W : Int)) := y0
    have x1 : w2.cell? ⟨H, 1, none⟩ = some (.int .i64 (n.S : Int)) := y1
    have x2 : w2.cell? ⟨H, 2, none⟩ = some (.int .i64 (n.K : Int)) := y2
    have x3 : w2.cell? ⟨H, 3, none⟩ = some (.int .i64 (n.M : Int)) := y3
    clear hc y0 y1 y2 y3
    go_wp2_with fail
    rw [show (4 + 2 * (n.W : Int) + (Z : Int)) = (N : Int) by have := HNE.out; omega]
    have hN1 : 1 ≤ N := by have := HNE.out; omega
    have hN2 : N ≤ 4096 := by have := HNE.out; omega
    refine (One.new N w2 hN1 hN2 w HC.out).mono ?_
    rintro e w3 ⟨B, rfl, hO⟩
    have HO := Lib.hid hO
    have HN2 := Lib.hid hN2
    clear hO x0 x1 x2 x3 e1 e2 ePQ hPQ hw2 hw' h1 h2 hv HM
    go_wp2
    go_loopw [9, 10, 11, 48, 49, 50, 51, 52, 53, 54, 55, 56, 57, 58, 59, 60, 61, 62, 63] (fun i _ _ _ _ _ _ _ _ _ _ _ _ _ _ _ _ _ _ wr => ∃ k : Nat, k ≤ N ∧ i = .int .i64 k ∧ Hid (One w B (bkTo vol N k) wr)) (fun i _ _ _ _ _ _ _ _ _ _ _ _ _ _ _ _ _ _ _ => N - (intOf i).toNat)
    case atStart => exact ⟨0, Nat.zero_le _, rfl, HO⟩
    case round =>
      obtain ⟨k, hk, rfl, HK⟩ := hrel
      clear HO
      by_cases hlt : k < N
      · have i1 : (0 : Int) ≤ (k : Int) := Int.natCast_nonneg _
        have i2 : (k : Int) < (N : Int) := by omega
        have HLT := Lib.hid hlt
        have hmy : mayB (fbV vol (k : Int)) = true := fbk_may HVW.out ⟨by omega, by have := HN2.out; omega⟩
        have HSN : Hid (sealN (fbV vol (k : Int)) = 256) := Lib.hid (by unfold sealN; rw [hmy]; rfl)
        have HSE := Lib.hid (rsealB_any (fbV vol (k : Int)) none 0 wr rfl ⟨⟨by show _ ≤ (1 : Int); omega, by show (1 : Int) ≤ _; omega⟩, ⟨by show _ ≤ vol; have := HVW.out; omega, by show vol ≤ _; have := HVW.out; omega⟩, ⟨by show _ ≤ (k : Int); omega, by show (k : Int) ≤ _; have := HN2.out; omega⟩, ⟨by show _ ≤ (0 : Int); omega, by show (0 : Int) ≤ _; omega⟩, ⟨by show _ ≤ (0 : Int); omega, by show (0 : Int) ≤ _; omega⟩, ⟨none, 0, rfl, ⟨by show (0 : Nat) ≤ _; omega, Nat.le_refl _⟩, fun q => absurd q (Nat.lt_irrefl 0)⟩⟩)
        have HBT := Lib.hid (built_fb vol (k : Int) wr)
        clear hlt hmy
        go_wp2_with (first
          | ((with_reducible refine wpList_isOp (.build 80 #[(0, .const (.int .i64 1)), (1, .tmp 54), (2, .tmp 55)]) rfl ?_); refine wpList_building _ rfl 80 #[(0, .const (.int .i64 1)), (1, .tmp 54), (2, .tmp 55)] rfl _ (by exact HBT.out) ?_)
          | fail)
        refine HSE.out.mono ?_
        rintro e w4 ⟨A4, C4, rfl, ho4, hc4⟩
        rw [HSN.out] at ho4
        rw [HSN.out]
        obtain ⟨sb, rfl, hob⟩ := own_new (w := wr) ho4 (by omega) (by omega) (sectZ_b (fun c hc => absurd hc (Nat.not_lt_zero c)) 256) (Nat.le_refl _)
        obtain ⟨sE, hsE⟩ : ∃ sE, sE = sealE (fbV vol (k : Int)) := ⟨_, rfl⟩
        rw [← hsE]
        have hlm := bk_lims vol N k hk
        have HWR := Lib.hid (HK.out.cal2 hc4 (d' := writeD (bkTo vol N k) (k : Int) 256 (sectZ (fbV vol (k : Int)))) (r := .int .i64 (writeE (bkTo vol N k) (k : Int) 256)) (F := 60) (args := #[.pointer (some ⟨B, 0, none⟩), .int .i64 (k : Int), .slice (some ⟨sb, 0, none⟩) 256 C4]) fun p hp h3 hf => by
          subst hp
          exact write_any _ p (bkTo vol N k) (k : Int) sb 0 256 C4 _ w4 h3 hob.row (hf sb hob.lo) (by have := hlm.1.ops; have := HN2.out; omega) (by have := hlm.1.W; have := HN2.out; omega) (fun a => by have := hlm.1.drops a; have := HN2.out; omega))
        clear ho4 hc4 hob hlm hsE
        go_wp2_with fail
        refine HWR.out.mono ?_
        rintro e w5 ⟨rfl, hO5⟩
        have HO5 : Hid (One w B (bkTo vol N (k + 1)) w5) := Lib.hid hO5
        clear hO5 HWR
        have hlt2 := HLT.out
        go_wp2
        go_roundw
        case rel => exact ⟨k + 1, HLT.out, by go_num, HO5⟩
        case measure => have := HLT.out; simp [intOf]; omega
      · obtain rfl : k = N := by omega
        have hlm := bk_lims vol k k (Nat.le_refl _)
        have HFL := Lib.hid (HK.out.flush hlm.1 (by have := HN2.out; omega))
        clear hlm hlt hk
        go_wp2_with fail
        refine HFL.out.mono ?_
        rintro e w5 ⟨rfl, hO5⟩
        have HFIN : Hid (BlankPost vol n.ge w (.returned (.pointer (some ⟨B, 0, none⟩))) w5) := Lib.hid ⟨(fun h => by rw [HB.out] at h; cases h), fun n' _ he => by
          have e : secsG n' = k := by
            rw [HNN.out]
            obtain ⟨a, b, c, d⟩ := n
            obtain ⟨a', b', c', d'⟩ := n'
            unfold Gn.ge at he
            simp only [Ge.mk.injEq, Int.natCast_inj] at he
            obtain ⟨rfl, rfl, rfl, rfl⟩ := he
            rfl
          exact ⟨B, rfl, by rw [e]; exact hO5⟩⟩
        clear hO5
        go_wp2
        go_ret
        exact HFIN.out
end Go.Proofs.YteleknojohnlbaaGreat
