/-
  RingCrash, walked.
-/
import Derived.Test.YteleknojohnlbaaGreatMc44
import Derived.Test.YteleknojohnlbaaGreatMc15
import Derived.Test.YteleknojohnlbaaGreatMc42
import Derived.Test.YteleknojohnlbaaGreatMc41
import Derived.Deep.CutBlock
import Derived.Sort.CutIn
namespace Go.Proofs.YteleknojohnlbaaGreat
open Go.RowKit
set_option linter.unusedVariables false
set_option maxRecDepth 100000
set_option linter.unusedSimpArgs false
set_option maxHeartbeats 25600000 in
theorem ringCrash_of {Al Ad : Option Addr} {ml Cl nd Cd nk : Nat} {gl : Nat → Lv} {dd : Nat → Int} {kk : Nat → Bool} (g : Ge) (v : Value) (w : World) (hL : LvsV w Al ml Cl gl) (hD : IntV w (.slice Ad nd Cd) nd dd ∧ ∀ i, i < nd → I64 (dd i)) (hK : RowQ w v nk kk) :
    Calls Tryz.prog 7 #[.agg (geC g), .slice Al ml Cl, .slice Ad nd Cd, v] w (Told w) := by
  obtain ⟨Ak, Ck, rfl, hnk, hk0⟩ := id hK
  obtain ⟨w1, H, hR⟩ := geR w g
  have HR := Lib.hid hR
  have HAW := Lib.hid (rawake_any w1)
  have HLV := Lib.hid hL
  have HDV := Lib.hid hD
  have HKV := Lib.hid hK
  have hml : ml ≤ 9223372036854775807 := hL.le
  have hnd : nd ≤ 140737488351232 := hD.1.len.choose_spec.choose_spec.2
  clear hR hL hD hK hk0
  go_enter Tryz.func7, Tryz.ntmps7
  go_wp2_with (first | ((with_reducible refine wpList_isOp (.box 23 (.tmp 0)) rfl ?_); refine wpList_boxing _ w1 rfl 23 (.tmp 0) rfl (geC g) H rfl (by exact HR.out.sz) (by exact HR.out.al) ?_) | fail)
  refine HAW.out.mono ?_
  rintro e w2 ⟨rfl, hc2⟩
  have HC2 := Lib.hid (HR.out.ch.trans hc2)
  obtain ⟨x0, x1, x2, x3⟩ := HR.out.x.gr hc2
  have HBK := Lib.hid (lawBlank_any 7 g w2 ⟨by omega, by omega⟩)
  have HC2b := Lib.hid hc2
  clear HAW hc2
  go_wp2_with fail
  refine HBK.out.mono ?_
  rintro e w4 hb
  cases hbk : blkOk 7 g
  · obtain ⟨rfl, hc4⟩ := hb.1 hbk
    have HCF := Lib.hid (HC2.out.trans hc4)
    clear hb hbk hc4 x0 x1 x2 x3 HBK
    go_wp2
    go_ret
    exact ⟨rfl, HCF.out⟩
  have hmg : mayG g = true := by unfold blkOk at hbk; exact (Bool.and_eq_true_iff.1 hbk).1
  obtain ⟨n, hn, rfl⟩ := may_nat hmg
  obtain ⟨B, rfl, hO⟩ := hb.2 n hbk rfl
  have HCR := Lib.hid (cr_start hO hn)
  have HNK := Lib.hid hn
  have HCF := Lib.hid (HC2.out.trans hO.1)
  clear hb hbk hmg hO hn HBK x0 x1 x2 x3
  by_cases h1 : (3 : Int) < (ml : Int)
  · go_wp2
    go_ret
    exact ⟨rfl, HCF.out⟩
  by_cases h2 : (nd : Int) < (ml : Int)
  · go_wp2
    go_ret
    exact ⟨rfl, HCF.out⟩
  by_cases h3 : (20 : Int) < (nk : Int)
  · go_wp2
    go_ret
    exact ⟨rfl, HCF.out⟩
  have hm3 : ml ≤ 3 := by omega
  have hdl : ml ≤ nd := by omega
  have HM3 := Lib.hid (And.intro hm3 hdl)
  have HNK2 := Lib.hid (show nk ≤ 20 by omega)
  have HX := Lib.hid HR.out.x
  go_wp2
  have e1 : decide ((3 : Int) < (ml : Int)) = false := decide_eq_false (by omega)
  have e2 : decide (nd < ml) = false := decide_eq_false (by omega)
  have e3 : decide ((20 : Int) < (nk : Int)) = false := decide_eq_false (by omega)
  simp only [e1, e2, e3, Bool.or_self]
  clear e1 e2 e3
  go_loopw [8, 11, 12, 13, 14, 15, 16, 17, 18, 19, 20, 21, 22, 23, 24, 25, 26, 27, 28, 56, 57, 58, 59, 60, 61, 62, 63, 64, 65, 66, 67, 68, 69, 70, 71, 72, 73, 74, 75, 76, 77, 78, 79, 80, 81, 82, 83, 84, 85, 86, 87, 88, 89, 90, 91, 92, 93, 94, 95, 96, 97, 98, 99, 100, 101, 102, 103, 104, 105, 106, 107, 108, 109, 110, 111, 112, 113, 114, 115, 116, 117, 118, 119, 120, 121, 122, 123, 124, 125, 126, 127, 128, 129, 130, 131, 132, 133, 134, 135, 136, 137, 138, 139, 140, 141, 142, 143, 144, 145, 146, 147, 148, 149, 150, 151, 152, 153, 154, 155, 156, 157, 158, 159, 160, 161, 162, 163, 164, 165, 166, 167, 168, 169, 170, 171, 172, 173, 174, 175, 176, 177, 178, 179, 180, 181, 182, 183, 184, 185, 186, 187, 188, 189, 190, 191, 192, 193, 194, 195, 196, 197, 198, 199, 200, 201, 202, 203, 204, 205, 206, 207, 208, 209, 210, 211, 212] (fun _ a11 a12 a13 a14 _ _ _ _ _ _ _ _ _ _ _ _ _ _ _ _ _ _ _ _ _ _ _ _ _ _ _ _ _ _ _ _ _ _ _ _ _ _ _ _ _ _ _ _ _ _ _ _ _ _ _ _ _ _ _ _ _ _ _ _ _ _ _ _ _ _ _ _ _ _ _ _ _ _ _ _ _ _ _ _ _ _ _ _ _ _ _ _ _ _ _ _ _ _ _ _ _ _ _ _ _ _ _ _ _ _ _ _ _ _ _ _ _ _ _ _ _ _ _ _ _ _ _ _ _ _ _ _ _ _ _ _ _ _ _ _ _ _ _ _ _ _ _ _ _ _ _ _ _ _ _ _ _ _ _ _ _ _ _ _ _ _ _ _ _ _ _ _ _ _ _ wr => ∃ k : Nat, k ≤ ml ∧ a14 = .int .i64 k ∧ ∃ nx ch : Int, a12 = .int .i64 nx ∧ a13 = .int .i64 ch ∧ Hid (CrS w2 B n k a11 nx ch wr)) (fun _ _ _ _ a14 _ _ _ _ _ _ _ _ _ _ _ _ _ _ _ _ _ _ _ _ _ _ _ _ _ _ _ _ _ _ _ _ _ _ _ _ _ _ _ _ _ _ _ _ _ _ _ _ _ _ _ _ _ _ _ _ _ _ _ _ _ _ _ _ _ _ _ _ _ _ _ _ _ _ _ _ _ _ _ _ _ _ _ _ _ _ _ _ _ _ _ _ _ _ _ _ _ _ _ _ _ _ _ _ _ _ _ _ _ _ _ _ _ _ _ _ _ _ _ _ _ _ _ _ _ _ _ _ _ _ _ _ _ _ _ _ _ _ _ _ _ _ _ _ _ _ _ _ _ _ _ _ _ _ _ _ _ _ _ _ _ _ _ _ _ _ _ _ _ _ _ _ => ml - (intOf a14).toNat)
  case atStart => exact ⟨0, Nat.zero_le _, rfl, 0, 0, rfl, rfl, HCR⟩
  case round =>
    clear HCR
    obtain ⟨k, hk, rfl, nx, ch, rfl, rfl, HK⟩ := hrel
    have HCW := Lib.hid (HC2.out.trans HK.out.ch')
    obtain ⟨x0, x1, x2, x3⟩ := HX.out.gr (HC2b.out.trans HK.out.ch')
    have i1 : (0 : Int) ≤ (k : Int) := Int.natCast_nonneg _
    by_cases hlt : k < ml
    · have i2 : (k : Int) < (ml : Int) := by omega
      have i3 : (k : Int) < (nd : Int) := by omega
      obtain ⟨b, o, hAl, hcs⟩ := HLV.out.at' (by omega)
      obtain ⟨c1', hrows⟩ := hcs k hlt
      obtain ⟨bd, od, hAd, hds⟩ := HDV.out.1.at (by omega)
      have hdk := HDV.out.2 k (by omega)
      have d0' := hds k (by omega)
      subst hAl hAd
      obtain ⟨q, hq⟩ : ∃ q, q = gl k := ⟨_, rfl⟩
      obtain ⟨dk, hdk'⟩ : ∃ dk, dk = dd k := ⟨_, rfl⟩
      rw [← hq] at c1' hrows
      rw [← hdk'] at d0' hdk
      obtain ⟨qA, qm, qC, qg⟩ := q
      obtain ⟨N, hN⟩ : ∃ N : Nat → Nat, N = fun c => (qg c).n := ⟨_, rfl⟩
      obtain ⟨Z, hZ⟩ : ∃ Z : Nat → Nat → Nat, Z = fun c => (qg c).z := ⟨_, rfl⟩
      have hrw : RowBs w qA qm qC qg := hrows
      have HLC : Hid (w.cell? ⟨b, o + k, none⟩ = some (.slice qA qm qC)) := Lib.hid c1'
      have HDC : Hid (w.cell? ⟨bd, od + k, none⟩ = some (.int .i64 dk)) := Lib.hid d0'
      have c1 := HCW.out.cell HLC.out (fun f => f)
      have d1 := HCW.out.cell HDC.out (fun f => f)
      have HSM := Lib.hid (show Calls Tryz.prog 24 #[.slice qA qm qC] wr _ from small_any qA qm qC N wr (by rw [hN]; exact (hrw.gr HCW.out).ls))
      have HLB : Hid (smallB N qm = true → BsV w qA qm qC N Z) := Lib.hid (by rw [hN, hZ]; exact small_bs hrw)
      have HDK := Lib.hid hdk
      have HLT := Lib.hid hlt
      clear hcs c1' d0' hrows hds hdk hq hdk' hN hZ hrw hlt
      go_wp2_with fail
      refine HSM.out.mono ?_
      rintro e w3 ⟨rfl, rfl⟩
      obtain ⟨sm, hsm⟩ : ∃ sm, sm = smallB N qm := ⟨_, rfl⟩
      rw [show (if qm ≤ 12 then fewTo N 1500 qm else false) = sm from hsm.symm]
      have HSB := Lib.hid hsm
      clear hsm HSM
      cases sm
      · go_wp2
        go_ret
        exact ⟨rfl, HCW.out⟩
      by_cases hd0 : dk < 0
      · go_wp2
        go_ret
        exact ⟨rfl, HCW.out⟩
      have hk3 : k ≤ 3 := by have := HM3.out; have := HLT.out; omega
      have hq12 : qm ≤ 12 := by
        have e := HSB.out
        unfold smallB at e
        split at e
        · assumption
        · cases e
      have hbs := (HLB.out HSB.out.symm).gr HC2.out
      have HQ12 := Lib.hid hq12
      have HBS := Lib.hid hbs
      have HK3 := Lib.hid hk3
      have HNW := Lib.hid (HK.out.new HNK.out hk3)
      clear hk3 hq12 hbs HK c1 HSB
      go_wp2_with fail
      refine HNW.out.mono ?_
      rintro e w3 ⟨R, rfl, h3⟩
      clear d1 x0 x1 x2 x3 HNW
      have d1 := (HC2.out.trans h3.ch).cell HDC.out (fun f => f)
      have HAR := Lib.hid (h3.arm HDK.out)
      clear h3
      go_wp2_with fail
      refine HAR.out.mono ?_
      rintro e w4 ⟨rfl, h4⟩
      clear d1 HAR
      have c1 := (HC2.out.trans h4.ch).cell HLC.out (fun f => f)
      have HAP := Lib.hid (h4.appd HNK.out HK3.out HBS.out HQ12.out)
      clear h4
      go_wp2_with fail
      refine HAP.out.mono ?_
      rintro e w5 ⟨v5, ok, rfl, h5⟩
      clear c1 HAP
      have HCR := Lib.hid (h5.crash HNK.out HK3.out (rowsL_b HBS.out) (by rw [rowsL_len]; exact HQ12.out) (HKV.out.gr HC2.out))
      clear h5
      go_wp2_with fail
      refine HCR.out.mono ?_
      rintro e w6 ⟨rfl, h6⟩
      obtain ⟨A7, c7, w7, rows, d6, hrun, HRL, H7⟩ := h6.app
      obtain ⟨mA, hmA⟩ : ∃ mA, mA = rows.length := ⟨_, rfl⟩
      rw [← hmA] at hrun
      have HRUN := Lib.hid hrun
      have HMA := Lib.hid hmA
      obtain ⟨x0, x1, x2, x3⟩ := HX.out.gr (HC2b.out.trans H7.out.ch)
      have HLD := Lib.hid (H7.out.load HNK.out HK3.out)
      clear h6 hrun hmA HCR
      go_wp2_with (first
        | (at_builtin; refine wpList_appB _ rfl (.tmp 104) (.tmp 105) rfl rfl _ _ (.slice A7 mA c7) w7 rfl rfl (by exact HRUN.out) ?_)
        | fail)
      refine HLD.out.mono ?_
      rintro e w8 ⟨B0, B1, rfl, b0, b1, h8⟩
      clear x0 x1 x2 x3 H7 HLD HRUN
      obtain ⟨x0, x1, x2, x3⟩ := HX.out.gr (HC2b.out.trans h8.ch)
      have HFO := Lib.hid (h8.follow HNK.out b0 b1)
      clear b0 b1 h8
      go_wp2_with fail
      refine HFO.out.mono ?_
      rintro e w9 ⟨ep, A9, c9, M2, rowsT, nx2, ch2, rfl, h9⟩
      clear x0 x1 x2 x3 HFO
      obtain ⟨nT, hnT⟩ : ∃ nT, nT = M2.length := ⟨_, rfl⟩
      rw [← hnT]
      obtain ⟨wz, wx, G, hVT⟩ := varTl ⟨rowsT, nx2, ch2⟩ ep (v := .slice A9 nT c9) ⟨_, _, _, rfl⟩ w9
      have t0 : wx.cell? ⟨G, 0, none⟩ = some (.slice A9 nT c9) := blk_cell hVT.cx
      have t1 : wx.cell? ⟨G, 1, none⟩ = some (.int .i64 nx2) := blk_cell hVT.cx
      have t2 : wx.cell? ⟨G, 2, none⟩ = some (.int .i64 ch2) := blk_cell hVT.cx
      have hlen := h9.len
      have hcnt := h9.cnt
      rw [← hnT, ← HMA.out] at hlen
      rw [← hnT] at hcnt
      have HNT := Lib.hid hnT
      have HLEN := Lib.hid hlen
      have HCX := Lib.hid (HC2.out.trans (h9.ch.trans hVT.ch))
      have HC9 := Lib.hid hVT.ch
      have HC2X := Lib.hid (h9.ch.trans hVT.ch)
      have HVT := Lib.hid hVT
      have H9 := Lib.hid h9
      have g0 : (0 : Int) ≤ (mA : Int) := Int.natCast_nonneg _
      have g1 : (mA : Int) ≤ 524 := by have := HRL.out; rw [← HMA.out] at this; omega
      have g2 : (nT : Int) ≤ (mA : Int) + 1 := by omega
      have g3 : (mA : Int) ≤ (nT : Int) := by omega
      clear hlen hcnt hnT hVT h9
      go_upto_region 21 with (first
        | ((with_reducible refine wpList_isOp (.alloc 40) rfl ?_); refine wpList_making _ wz rfl 40 rfl (tlC tl0 0 (.slice none 0 0)) G (zero_tl _) (by exact HVT.out.sz) (by exact HVT.out.al) ?_)
        | ((with_reducible refine wpList_isOp (.store 40 (.tmp 22) (.tmp 118)) rfl ?_); refine wpList_storing _ wx rfl 40 (.tmp 22) (.tmp 118) rfl (.agg (tlC ⟨rowsT, nx2, ch2⟩ ep (.slice A9 nT c9))) ⟨G, 0, none⟩ rfl rfl (by exact HVT.out.st) ?_)
        | fail)
      go_cut [153] (fun c wc => c = .bool false ∧ wc = wx)
      case first =>
        rcases HLEN.out with q | ⟨q, rfl⟩
        · subst q
          cases ok
          · go_wp2
            go_meet
            exact ⟨by rw [decide_eq_false (by omega)], rfl⟩
          · go_wp2
            go_meet
            exact ⟨by rw [decide_eq_false (by omega)], rfl⟩
        · have q1 : (nT : Int) = (mA : Int) + 1 := by omega
          go_wp2
          go_meet
          exact ⟨by rw [decide_eq_false (by omega)], rfl⟩
      case rest =>
        obtain ⟨rfl, hwc⟩ := hcut
        rw [hwc]
        clear hwc
        go_wp2_with fail
        go_loopw [24, 25, 154, 155, 156, 157, 158, 159, 160, 161, 162, 163, 164, 165, 166, 167, 168, 169, 170, 171] (fun i _ _ _ _ _ _ _ _ _ _ _ _ _ _ _ _ _ _ _ wr => ∃ j jn : Nat, j ≤ mA ∧ i = .int .i64 j ∧ wr = wx.drewN jn) (fun i _ _ _ _ _ _ _ _ _ _ _ _ _ _ _ _ _ _ _ _ => mA - (intOf i).toNat)
        case atStart => exact ⟨0, 0, Nat.zero_le _, rfl, rfl⟩
        case round =>
          obtain ⟨j, jn, hj, rfl, hwr⟩ := hrel
          have hcj : Ch (fun _ => False) wx wr := by rw [hwr]; exact (Ch.refl _ wx).drewN jn
          have t0' := hcj.cell t0 (fun f => f)
          have t1' := hcj.cell t1 (fun f => f)
          have t2' := hcj.cell t2 (fun f => f)
          have HCJ := Lib.hid hcj
          have HWR := Lib.hid hwr
          clear hwr hcj
          have j0 : (0 : Int) ≤ (j : Int) := Int.natCast_nonneg _
          by_cases hlt2 : j < mA
          · have j1 : (j : Int) < (mA : Int) := by omega
            have j2 : (j : Int) < (nT : Int) := by omega
            obtain ⟨b', o', b2, o2, A', C', A3, C3, nb, hA7, hA9, ca, cb, HSA⟩ := H9.out.cmp (by rw [← HMA.out]; exact hlt2) (HC9.out.trans HCJ.out)
            subst hA7 hA9
            go_wp2_with fail
            go_quiet (first
              | (go_at_call 14; exact Qu.at (HSA.out _)))
            go_wp2_with fail
            go_roundw
            case rel => exact ⟨j + 1, jn + nq, by omega, by go_num, by rw [HWR.out, World.drewN_drewN]⟩
            case measure => simp [intOf]; omega
          · have j1 : ¬ (j : Int) < (mA : Int) := by omega
            by_cases hn : nT = mA
            · have n1 : ¬ (mA : Int) < (nT : Int) := by omega
              go_wp2
              go_roundw
              case rel => exact ⟨k + 1, by have := HLT.out; omega, by go_num, nx2, ch2, rfl, rfl, Lib.hid (by have e := H9.out.next _ (HC9.out.trans HCJ.out); rw [← HNT.out, hn] at e; exact e)⟩
              case measure => exact meas_of (by kernel_rfl) (by kernel_rfl) HLT.out
            · have n1 : (mA : Int) < (nT : Int) := by omega
              obtain ⟨hit, hany, hrow⟩ := H9.out.last (C := qC) (by rw [← HNT.out, ← HMA.out]; have := HLEN.out; omega)
              have HANY := Lib.hid hany
              have HROW := Lib.hid hrow
              clear hany hrow
              have c1 := (HCX.out.trans HCJ.out).cell HLC.out (fun f => f)
              go_upto_region 31 with fail
              have HN1 := Lib.hid n1
              have HT0 := Lib.hid t0
              have HT1 := Lib.hid t1
              have HT2 := Lib.hid t2
              clear hn hlt2 j1 g2 g3 n1 c1 t0' t1' t2' t0 t1 t2
              go_wp2_with fail
              go_loopw [26, 27, 28, 178, 179, 180, 181, 182, 183, 184, 185, 186, 187, 188, 189, 190, 191, 192, 193, 194, 195, 196, 197, 198, 199, 200, 201, 202, 203, 204] (fun wy i _ _ _ _ _ _ _ _ _ _ _ _ _ _ _ _ _ _ _ _ _ _ _ _ _ _ _ _ wr => ∃ m jm : Nat, m ≤ qm ∧ i = .int .i64 m ∧ wy = .bool (anyTo hit m) ∧ wr = wx.drewN jm) (fun _ i _ _ _ _ _ _ _ _ _ _ _ _ _ _ _ _ _ _ _ _ _ _ _ _ _ _ _ _ _ => qm - (intOf i).toNat)
              case atStart => exact ⟨0, jn, Nat.zero_le _, rfl, rfl, HWR.out⟩
              case round =>
                obtain ⟨m, jm, hm, rfl, rfl, hwr⟩ := hrel
                have hcj : Ch (fun _ => False) wx wr := by rw [hwr]; exact (Ch.refl _ wx).drewN jm
                have n1 := HN1.out
                have t0' := hcj.cell HT0.out (fun f => f)
                have t1' := hcj.cell HT1.out (fun f => f)
                have t2' := hcj.cell HT2.out (fun f => f)
                have c1 := (HCX.out.trans hcj).cell HLC.out (fun f => f)
                have HCM := Lib.hid hcj
                have HWM := Lib.hid hwr
                obtain ⟨y, hy⟩ : ∃ y, y = anyTo hit m := ⟨_, rfl⟩
                rw [← hy]
                have HY := Lib.hid hy
                clear hwr hcj hy
                have m0 : (0 : Int) ≤ (m : Int) := Int.natCast_nonneg _
                have m2 : (qm : Int) ≤ 12 := by have := HQ12.out; omega
                by_cases hlt3 : m < qm
                · have m1 : (m : Int) < (qm : Int) := by omega
                  obtain ⟨b2, o2, A3, C3, n3, bb, oo, A', C', hA9, ca, hA0, cb, HSA⟩ := HROW.out _ _ _ HBS.out (HC2X.out.trans HCM.out) (HC9.out.trans HCM.out) m hlt3
                  rw [← HMA.out] at ca
                  subst hA9 hA0
                  obtain ⟨z, hz⟩ : ∃ z, z = hit m := ⟨_, rfl⟩
                  rw [← hz] at HSA
                  have HZ := Lib.hid hz
                  clear hz
                  go_wp2_with fail
                  go_quiet (first
                    | (go_at_call 14; exact Qu.at (HSA.out _)))
                  cases y
                  · go_wp2_with fail
                    go_roundw
                    case rel => exact ⟨m + 1, jm + nq, by omega, by go_num, by unfold anyTo; rw [← HY.out, ← HZ.out]; rfl, by rw [HWM.out, World.drewN_drewN]⟩
                    case measure => simp [intOf]; omega
                  · go_wp2_with fail
                    go_roundw
                    case rel => exact ⟨m + 1, jm + nq, by omega, by go_num, by unfold anyTo; rw [← HY.out]; rfl, by rw [HWM.out, World.drewN_drewN]⟩
                    case measure => simp [intOf]; omega
                · have m1 : ¬ (m : Int) < (qm : Int) := by omega
                  obtain rfl : y = true := by rw [HY.out, show m = qm by omega]; exact HANY.out
                  go_wp2
                  go_roundw
                  case rel => exact ⟨k + 1, by have := HLT.out; omega, by go_num, nx2, ch2, rfl, rfl, Lib.hid (by have e := H9.out.next _ (HC9.out.trans HCM.out); rw [← HNT.out] at e; exact e)⟩
                  case measure => exact meas_of (by kernel_rfl) (by kernel_rfl) HLT.out
    · obtain rfl : k = ml := by omega
      go_wp2
      go_ret
      exact ⟨rfl, HCW.out⟩
end Go.Proofs.YteleknojohnlbaaGreat
