/-
  TreeDoes, walked.
-/
import Derived.Test.YtkpgaejmhddkdaaTrFj
namespace Go.Proofs.Ytkpgaejmhddkdaa
open Go.RowKit
set_option linter.unusedVariables false
set_option maxRecDepth 100000
set_option linter.unusedSimpArgs false

theorem kLt_empty (a : ByteArray) : kLt a ⟨#[]⟩ = false := by
  unfold kLt
  rw [show (⟨#[]⟩ : ByteArray).toList = [] by decide +kernel]
  cases h : a.toList with
  | nil => rfl
  | cons x l => rfl
theorem fromL_empty (L : List Kv) : fromL L ⟨#[]⟩ = L := by
  unfold fromL
  rw [List.filter_eq_self]
  intro x _
  rw [kLt_empty]
  rfl
/-- A tree, and the document's list, behind so many calls. -/
def DoSt (t j : Nat) (w1 : World) (r : Value) (wr : World) : Prop := ∃ h L, TreeIs wr t h L ∧ L.length ≤ j ∧ FlO kdKv w1 wr r L ∧ Ch (fun i => i = t) w1 wr
set_option maxHeartbeats 6400000 in
theorem treeDoes_of (A : Option Addr) (C : Nat) (ls : List OpV) (k0 : ByteArray) (most : Int) (w : World) (h : FlW kdOp w A C ls) : Calls Try.prog 3 #[.slice A ls.length C, .string k0, .int .i64 most] w (Told w) := by
  have HW := Lib.hid h
  obtain ⟨n, hn⟩ : ∃ n, n = ls.length := ⟨_, rfl⟩
  have hle := h.le
  have HUP := Lib.hid (awake_any w)
  rw [← hn] at hle ⊢
  have n0 : (0 : Int) ≤ (n : Int) := Int.natCast_nonneg _
  have n1 : (n : Int) ≤ 9223372036854775807 := by omega
  have HN := Lib.hid hn
  obtain ⟨f, hf⟩ : ∃ f, f = fewB ls 200 := ⟨_, rfl⟩
  have HF := Lib.hid hf
  obtain ⟨K0, hK0⟩ : ∃ K0, K0 = k0.size := ⟨_, rfl⟩
  clear h hn hle hf
  go_enter Try.func3, Try.ntmps3
  go_wp2_with fail
  refine HUP.out.mono ?_
  rintro e w1 ⟨rfl, hc1⟩
  have hfw := few_any A C ls 200 (by omega) w1 (HW.out.gr hc1)
  rw [← HN.out, ← HF.out] at hfw
  have HFW := Lib.hid hfw
  have HC1 := Lib.hid hc1
  clear hc1 hfw HUP
  go_wp2_with fail
  refine HFW.out.mono ?_
  rintro e w2 ⟨rfl, hc2⟩
  have HC2 := Lib.hid (HC1.out.trans hc2)
  clear hc2 HFW HC1
  by_cases hok : f = true ∧ k0.size ≤ 100 ∧ 0 ≤ most
  case neg =>
    have hno : f = false ∨ (f = true ∧ ¬ k0.size ≤ 100) ∨ (f = true ∧ k0.size ≤ 100 ∧ most < 0) := by
      cases f
      · exact Or.inl rfl
      · by_cases q : k0.size ≤ 100
        · exact Or.inr (Or.inr ⟨rfl, q, by
            by_cases q2 : 0 ≤ most
            · exact absurd ⟨rfl, q, q2⟩ hok
            · omega⟩)
        · exact Or.inr (Or.inl ⟨rfl, q⟩)
    clear hok hK0
    rcases hno with rfl | ⟨rfl, q⟩ | ⟨rfl, q, q2⟩
    · go_wp2_with fail
      go_ret
      exact ⟨rfl, HC2.out⟩
    · have q3 : (100 : Int) < (k0.size : Int) := by omega
      clear q
      go_wp2_with fail
      go_ret
      exact ⟨rfl, HC2.out⟩
    · have q3 : ¬ (100 : Int) < (k0.size : Int) := by omega
      clear q
      go_wp2_with fail
      go_ret
      exact ⟨rfl, HC2.out⟩
  case pos =>
    obtain ⟨rfl, hk, hm⟩ := hok
    have hk3 : ¬ (100 : Int) < (k0.size : Int) := by omega
    have hm3 : ¬ most < 0 := by omega
    have hn4 : n ≤ 200 := by rw [HN.out]; exact fewB_len HF.out.symm
    have n4 : (n : Int) ≤ 200 := by omega
    have HV := Lib.hid (HW.out.fl (by rw [← HN.out]; omega))
    obtain ⟨w3, hw3⟩ : ∃ w3, w3 = w2.alloc (.cells #[.pointer none, .int .i64 0] 28) := ⟨_, rfl⟩
    obtain ⟨t, ht⟩ : ∃ t, t = w2.heap.size := ⟨_, rfl⟩
    have hc : Ch (fun _ => False) w2 w3 := by rw [hw3]; exact (Ch.refl _ w2).alloc _ _
    have hb : w3.heap[t]? = some (.cells #[.pointer none, .int .i64 0] 28 (0, 0)) := by rw [hw3, ht]; exact heap_alloc_new _ _
    have HT0 := Lib.hid (TreeIs.new w3 t hb)
    have HTL := Lib.hid (blk_lt hb)
    have HC3 := Lib.hid (HC2.out.trans hc)
    have HLE := Lib.hid (show w.heap.size ≤ t by rw [ht]; exact HC2.out.size)
    have HV3 := Lib.hid (HV.out.gr (HC2.out.trans hc))
    clear hc hb hn4 hK0 hk
    go_upto_region 6 with fail
    rw [← ht, ← hw3]
    clear ht hw3 hk3 hm3
    go_wp2_with fail
    go_loopw [10, 11] (fun r i wr => ∃ j : Nat, j ≤ n ∧ i = .int .i64 (j : Int) ∧ Hid (DoSt t j w3 r wr)) (fun r i _ => n - (intOf i).toNat)
    case atStart => exact ⟨0, Nat.zero_le _, rfl, Lib.hid ⟨0, [], HT0.out, Nat.le_refl 0, FlO.start _ _ _, Ch.refl _ _⟩⟩
    case round =>
      obtain ⟨j, hj, rfl, HS⟩ := hrel
      have j0 : (0 : Int) ≤ (j : Int) := Int.natCast_nonneg _
      have j400 : j ≤ 200 := by omega
      by_cases hlt : j < n
      · have j1 : (j : Int) < (n : Int) := by omega
        obtain ⟨h, L, hT, hLj, hO, hC⟩ := HS.out
        obtain ⟨b, o, rfl⟩ := HV.out.some' (by rw [← HN.out]; omega)
        have hbt : b ≠ t := fun e => by
          have h1 := HV.out.low' kdOp_ok (by rw [← HN.out]; omega)
          have h2 := HLE.out
          omega
        have hv := HV3.out.ch hC fun b' o' e x => hbt (by injection e with e; injection e with e _ _; rw [e]; exact x)
        have hx : ls[j]? = some (ls[j]'(by rw [← HN.out]; exact hlt)) := List.getElem?_eq_getElem _
        obtain ⟨⟨d, k, v⟩, hxe⟩ : ∃ x, ls[j]? = some x := ⟨_, hx⟩
        have c0 : wr.cell? ⟨b, o + j * 3, none⟩ = some (.bool d) := hv.cells hxe 0 _ rfl
        have c1 : wr.cell? ⟨b, o + j * 3 + 1, none⟩ = some (.string k) := hv.cells hxe 1 _ rfl
        have c2 : wr.cell? ⟨b, o + j * 3 + 2, none⟩ = some (.int .i64 v) := hv.cells hxe 2 _ rfl
        clear hv hx hxe hbt
        obtain ⟨A2, C2, rfl⟩ := hO.len
        obtain ⟨l, hl⟩ : ∃ l, l = L.length := ⟨_, rfl⟩
        obtain ⟨wx, hwx⟩ : ∃ wx, wx = wr.alloc (.cells #[.bool d, .string k, .int .i64 v] 31) := ⟨_, rfl⟩
        obtain ⟨X, hX⟩ : ∃ X, X = wr.heap.size := ⟨_, rfl⟩
        have hcx : Ch (fun _ => False) wr wx := by rw [hwx]; exact (Ch.refl _ wr).alloc _ _
        have hbx : wx.heap[X]? = some (.cells #[.bool d, .string k, .int .i64 v] 31 (0, 0)) := by rw [hwx, hX]; exact heap_alloc_new _ _
        have htw : t < wr.heap.size := Nat.lt_of_lt_of_le HTL.out hC.size
        have hg := rget_any A2 C2 L k wx ((hO.gr hcx).read kdKv_ok (by omega))
        rw [← hl] at hg ⊢
        have HST := Lib.hid (And.intro hT (And.intro hO (And.intro hC hLj)))
        have HHL := Lib.hid hl
        have HBX := Lib.hid hbx
        have HCX := Lib.hid hcx
        have HXT := Lib.hid (show t < X by rw [hX]; exact htw)
        have HG := Lib.hid (show Calls Try.prog 10 #[.slice A2 l C2, .string k] wx (Tid (.tuple #[.int .i64 ((getL L k).getD 0), .bool (getL L k).isSome]) wx) from hg)
        obtain ⟨g0, hg0⟩ : ∃ g0, g0 = (getL L k).getD 0 := ⟨_, rfl⟩
        rw [← hg0] at HG
        clear hT hO hC hLj hg hl htw hcx HS hg0
        go_upto_region 11 with fail
        rw [← hX, ← hwx]
        clear hwx hX c0 c1 c2
        have c0 : wx.cell? ⟨X, 0, none⟩ = some (.bool d) := by rw [blk_cell hbx]; rfl
        have c1 : wx.cell? ⟨X, 1, none⟩ = some (.string k) := by rw [blk_cell hbx]; rfl
        have c2 : wx.cell? ⟨X, 2, none⟩ = some (.int .i64 v) := by rw [blk_cell hbx]; rfl
        clear hbx
        go_wp2_with fail
        refine HG.out.mono ?_
        rintro e wa ⟨rfl, hca⟩
        clear c0 c1 c2
        have hba := (hca.block X (blk_lt HBX.out) (fun f => f)).trans HBX.out
        have c0 : wa.cell? ⟨X, 0, none⟩ = some (.bool d) := by rw [blk_cell hba]; rfl
        have c1 : wa.cell? ⟨X, 1, none⟩ = some (.string k) := by rw [blk_cell hba]; rfl
        have c2 : wa.cell? ⟨X, 2, none⟩ = some (.int .i64 v) := by rw [blk_cell hba]; rfl
        have HCA := Lib.hid (HCX.out.trans hca)
        have HD := Lib.hid (does_any ((HST.out.1.gr HCX.out).gr hca) (d, k, v) (by have := HST.out.2.2.2; omega))
        have HBA := Lib.hid hba
        clear hca hba HG
        go_wp2_with fail
        refine HD.out.mono ?_
        rintro e wb ⟨h2, rfl, hT2, hcb⟩
        clear c0 c1 c2 HD
        have hbb := (hcb.block X (blk_lt HBA.out) (fun e => by have := HXT.out; omega)).trans HBA.out
        have c0 : wb.cell? ⟨X, 0, none⟩ = some (.bool d) := by rw [blk_cell hbb]; rfl
        have c1 : wb.cell? ⟨X, 1, none⟩ = some (.string k) := by rw [blk_cell hbb]; rfl
        have c2 : wb.cell? ⟨X, 2, none⟩ = some (.int .i64 v) := by rw [blk_cell hbb]; rfl
        have hOb : FlO kdKv w3 wb (.slice A2 L.length C2) L := (HST.out.2.1.gr HCA.out).ch hcb fun i e x => by
          have h1 := (HST.out.2.1.lo e).1
          have h2 := HTL.out
          omega
        have HTB := Lib.hid (And.intro (⟨h2, hT2⟩ : ∃ h2, TreeIs wb t h2 (doesL (d, k, v) L)) (And.intro (show (doesL (d, k, v) L).length ≤ j + 1 by have a1 := does_len HST.out.1.rise (d, k, v); have a2 := HST.out.2.2.2; omega) hcb))
        obtain ⟨had, hhad⟩ : ∃ had, had = (getL L k).isSome := ⟨_, rfl⟩
        have e8 : (had == ((d, k, v) : OpV).1) = (had == d) := rfl
        rw [← hhad]
        rw [e8]
        have HOB := Lib.hid (hOb.read kdKv_ok (by have := HST.out.2.2.2; omega))
        have HBB := Lib.hid hbb
        clear hT2 hcb hOb hhad e8 hbb
        cases d
        · have hu := rput_any A2 C2 L HST.out.1.rise k v wb HOB.out (by have := HST.out.2.2.2; omega)
          rw [← HHL.out] at hu
          have HU := Lib.hid hu
          clear hu
          go_wp2_with fail
          refine (HU.out).mono ?_
          rintro e wc ⟨v2, rfl, hO2, hcc⟩
          obtain ⟨A3, C3, rfl⟩ := hO2.len
          obtain ⟨L2, hL2⟩ : ∃ L2, L2 = putL13 L k v := ⟨_, rfl⟩
          rw [← hL2] at hO2 ⊢
          have HTB2 := HTB.out
          rw [show doesL (false, k, v) L = L2 from hL2.symm] at HTB2
          have HTB := Lib.hid HTB2
          clear HTB2
          obtain ⟨h2, hT2⟩ := HTB.out.1
          have hTc := hT2.gr hcc
          have hl2 : L2.length ≤ j + 1 := HTB.out.2.1
          obtain ⟨m, hm⟩ : ∃ m, m = L2.length := ⟨_, rfl⟩
          have hg1 := tget_any hTc k0
          have HG1 := Lib.hid (show Calls Try.prog 14 #[.pointer (some ⟨t, 0, none⟩), .string k0] wc (Ans (.tuple #[.int .i64 ((getL L2 k0).getD 0), .bool (getL L2 k0).isSome]) wc) from hg1)
          have HW := Lib.hid (And.intro hTc (And.intro hO2 hm))
          have HM := Lib.hid (show m ≤ 201 by omega)
          have HCC := Lib.hid hcc
          obtain ⟨gv, hgv⟩ : ∃ gv, gv = (getL L2 k0).getD 0 := ⟨_, rfl⟩
          obtain ⟨gs, hgs⟩ : ∃ gs, gs = (getL L2 k0).isSome := ⟨_, rfl⟩
          have HGV := Lib.hid (And.intro hgv hgs)
          rw [← hgv, ← hgs] at HG1
          rw [← hm]
          clear hL2 hT2 hTc hl2 hg1 hO2 hcc hgv hgs hm
          go_wp2_with fail
          refine HG1.out.mono ?_
          rintro e wd ⟨rfl, hcd⟩
          have hg2 := rget_any A3 C3 L2 k0 wd ((HW.out.2.1.gr hcd).read kdKv_ok (by have h1 := HW.out.2.2; have h2 := HM.out; omega))
          rw [← HW.out.2.2] at hg2
          have HG2 := Lib.hid (show Calls Try.prog 10 #[.slice A3 m C3, .string k0] wd (Tid (.tuple #[.int .i64 gv, .bool gs]) wd) by
            rw [HGV.out.1, HGV.out.2]
            exact hg2)
          have HCD := Lib.hid hcd
          clear hg2 hcd
          go_wp2_with fail
          refine HG2.out.mono ?_
          rintro e we ⟨rfl, hce⟩
          have hln := tlen_any (HW.out.1.gr (HCD.out.trans hce))
          rw [← HW.out.2.2] at hln
          have HLN := Lib.hid hln
          have HCE := Lib.hid hce
          clear hln hce
          have m0 : (0 : Int) ≤ (m : Int) := Int.natCast_nonneg _
          have m1 : (m : Int) ≤ 201 := by have := HM.out; omega
          have HS2 : Hid (DoSt t (j + 1) w3 (.slice A3 m C3) we) := Lib.hid (by
            obtain ⟨q1, q2, q3⟩ := HW.out
            have hcde := HCD.out.trans HCE.out
            have hcb2 := HTB.out.2.2
            have hwab : w3.heap.size ≤ wb.heap.size := Nat.le_trans (Nat.le_trans HST.out.2.2.1.size HCA.out.size) hcb2.size
            refine ⟨_, L2, q1.gr hcde, HTB.out.2.1, by rw [q3]; exact (q2.gr hcde).low hwab, ?_⟩
            have a1 := (HST.out.2.2.1.trans (HCA.out.mono fun _ _ f => f.elim)).trans hcb2
            exact (a1.trans (HCC.out.mono fun _ _ f => f.elim)).trans (hcde.mono fun _ _ f => f.elim))
          have c0 : we.cell? ⟨X, 0, none⟩ = some (.bool false) := by rw [blk_cell (((HCC.out.trans (HCD.out.trans HCE.out)).block X (blk_lt HBB.out) (fun f => f)).trans HBB.out)]; rfl
          clear HW HCC HCD HCE HTB HGV HU
          go_wp2_with fail
          refine HLN.out.mono ?_
          rintro e wf ⟨rfl, rfl⟩
          go_wp2_with fail
          go_roundw
          case rel => exact ⟨j + 1, by omega, by go_num, HS2⟩
          case measure => simp [intOf]; omega
        · have hu := rdel_any A2 C2 L k wb HOB.out (by have := HST.out.2.2.2; omega)
          rw [← HHL.out] at hu
          have HU := Lib.hid hu
          clear hu
          go_wp2_with fail
          refine (HU.out).mono ?_
          rintro e wc ⟨v2, rfl, hO2, hcc⟩
          obtain ⟨A3, C3, rfl⟩ := hO2.len
          obtain ⟨L2, hL2⟩ : ∃ L2, L2 = delL L k := ⟨_, rfl⟩
          rw [← hL2] at hO2 ⊢
          have HTB2 := HTB.out
          rw [show doesL (true, k, v) L = L2 from hL2.symm] at HTB2
          have HTB := Lib.hid HTB2
          clear HTB2
          obtain ⟨h2, hT2⟩ := HTB.out.1
          have hTc := hT2.gr hcc
          have hl2 : L2.length ≤ j + 1 := HTB.out.2.1
          obtain ⟨m, hm⟩ : ∃ m, m = L2.length := ⟨_, rfl⟩
          have hg1 := tget_any hTc k0
          have HG1 := Lib.hid (show Calls Try.prog 14 #[.pointer (some ⟨t, 0, none⟩), .string k0] wc (Ans (.tuple #[.int .i64 ((getL L2 k0).getD 0), .bool (getL L2 k0).isSome]) wc) from hg1)
          have HW := Lib.hid (And.intro hTc (And.intro hO2 hm))
          have HM := Lib.hid (show m ≤ 201 by omega)
          have HCC := Lib.hid hcc
          obtain ⟨gv, hgv⟩ : ∃ gv, gv = (getL L2 k0).getD 0 := ⟨_, rfl⟩
          obtain ⟨gs, hgs⟩ : ∃ gs, gs = (getL L2 k0).isSome := ⟨_, rfl⟩
          have HGV := Lib.hid (And.intro hgv hgs)
          rw [← hgv, ← hgs] at HG1
          rw [← hm]
          clear hL2 hT2 hTc hl2 hg1 hO2 hcc hgv hgs hm
          go_wp2_with fail
          refine HG1.out.mono ?_
          rintro e wd ⟨rfl, hcd⟩
          have hg2 := rget_any A3 C3 L2 k0 wd ((HW.out.2.1.gr hcd).read kdKv_ok (by have h1 := HW.out.2.2; have h2 := HM.out; omega))
          rw [← HW.out.2.2] at hg2
          have HG2 := Lib.hid (show Calls Try.prog 10 #[.slice A3 m C3, .string k0] wd (Tid (.tuple #[.int .i64 gv, .bool gs]) wd) by
            rw [HGV.out.1, HGV.out.2]
            exact hg2)
          have HCD := Lib.hid hcd
          clear hg2 hcd
          go_wp2_with fail
          refine HG2.out.mono ?_
          rintro e we ⟨rfl, hce⟩
          have hln := tlen_any (HW.out.1.gr (HCD.out.trans hce))
          rw [← HW.out.2.2] at hln
          have HLN := Lib.hid hln
          have HCE := Lib.hid hce
          clear hln hce
          have m0 : (0 : Int) ≤ (m : Int) := Int.natCast_nonneg _
          have m1 : (m : Int) ≤ 201 := by have := HM.out; omega
          have HS2 : Hid (DoSt t (j + 1) w3 (.slice A3 m C3) we) := Lib.hid (by
            obtain ⟨q1, q2, q3⟩ := HW.out
            have hcde := HCD.out.trans HCE.out
            have hcb2 := HTB.out.2.2
            have hwab : w3.heap.size ≤ wb.heap.size := Nat.le_trans (Nat.le_trans HST.out.2.2.1.size HCA.out.size) hcb2.size
            refine ⟨_, L2, q1.gr hcde, HTB.out.2.1, by rw [q3]; exact (q2.gr hcde).low hwab, ?_⟩
            have a1 := (HST.out.2.2.1.trans (HCA.out.mono fun _ _ f => f.elim)).trans hcb2
            exact (a1.trans (HCC.out.mono fun _ _ f => f.elim)).trans (hcde.mono fun _ _ f => f.elim))
          have c0 : we.cell? ⟨X, 0, none⟩ = some (.bool true) := by rw [blk_cell (((HCC.out.trans (HCD.out.trans HCE.out)).block X (blk_lt HBB.out) (fun f => f)).trans HBB.out)]; rfl
          clear HW HCC HCD HCE HTB HGV HU
          go_wp2_with fail
          refine HLN.out.mono ?_
          rintro e wf ⟨rfl, rfl⟩
          go_wp2_with fail
          go_roundw
          case rel => exact ⟨j + 1, by omega, by go_num, HS2⟩
          case measure => simp [intOf]; omega
      · have j1 : ¬ (j : Int) < (n : Int) := by omega
        obtain ⟨h, L, hT, hLj, hO, hC⟩ := HS.out
        obtain ⟨A2, C2, rfl⟩ := hO.len
        obtain ⟨M, hM⟩ : ∃ M : Nat, most = (M : Int) := ⟨most.toNat, by omega⟩
        have hV2 := hO.read kdKv_ok (by omega)
        have hf := rfrom_any A2 C2 L k0 wr hV2 (by omega)
        obtain ⟨l, hl⟩ : ∃ l, l = L.length := ⟨_, rfl⟩
        rw [← hl] at hf ⊢
        have HFR := Lib.hid hf
        have HV2 := Lib.hid (And.intro hV2 hl)
        have HST := Lib.hid (And.intro hT hC)
        have hl2 : l ≤ 200 := by omega
        have HCW := Lib.hid (HC3.out.new (hC.mono fun i _ e => by rw [e]; exact HLE.out))
        have l0 : (0 : Int) ≤ (l : Int) := Int.natCast_nonneg _
        have l1 : (l : Int) ≤ 200 := by omega
        have M0 : (0 : Int) ≤ (M : Int) := Int.natCast_nonneg _
        have HCL : Hid (∀ X : List Kv, cutL most X = X.take M) := Lib.hid fun X => by unfold cutL; rw [hM, if_neg (by omega), Int.toNat_natCast]
        have HMM := Lib.hid hM
        rw [hM]
        clear hf hl hV2 hT hC hO hLj hM HS
        go_wp2_with fail
        refine HFR.out.mono ?_
        rintro e wf ⟨vf, rfl, hOf, hcf⟩
        obtain ⟨A3, C3, rfl⟩ := hOf.len
        have hfl := fromL_le L k0
        rw [← HV2.out.2] at hfl
        obtain ⟨lf, hlf⟩ : ∃ lf, lf = (fromL L k0).length := ⟨_, rfl⟩
        rw [← hlf] at hfl ⊢
        have HV3 := Lib.hid (And.intro (hOf.read kdKv_ok (by omega)) hlf)
        have HCF := Lib.hid hcf
        have lf0 : (0 : Int) ≤ (lf : Int) := Int.natCast_nonneg _
        have lf1 : (lf : Int) ≤ 200 := by omega
        have HV2F := Lib.hid (HV2.out.1.gr hcf)
        have ht1 := told_all (some t) h L ⟨#[]⟩ most wf (TreeIs.gr HST.out.1 hcf)
        rw [HCL.out, fromL_empty, HMM.out] at ht1
        have ht2 := fun w' (c : Ch (fun _ => False) wf w') => told_all (some t) h L k0 most w' (TreeIs.gr (TreeIs.gr HST.out.1 hcf) c)
        rw [HMM.out] at ht2
        have HT1 := Lib.hid ht1
        have HT2 := Lib.hid ht2
        clear hOf hcf hlf hfl ht1 ht2 HFR
        by_cases p1 : M < l
        · by_cases p2 : M < lf
          · have r1 : (M : Int) < (l : Int) := by omega
            obtain ⟨b1, o1, rfl⟩ := HV2.out.1.some' (by rw [← HV2.out.2]; omega)
            have e1 : (L.take M).length = M := by rw [List.length_take, ← HV2.out.2]; omega
            have r3 : (M : Int) ≤ (C2 : Int) := by have h1 := HV2.out.1.cap; rw [← HV2.out.2] at h1; omega
            have r2 : (M : Int) < (lf : Int) := by omega
            obtain ⟨b2, o2, rfl⟩ := HV3.out.1.some' (by rw [← HV3.out.2]; omega)
            have e2 : ((fromL L k0).take M).length = M := by rw [List.length_take, ← HV3.out.2]; omega
            have r4 : (M : Int) ≤ (C3 : Int) := by have h1 := HV3.out.1.cap; rw [← HV3.out.2] at h1; omega
            have HE1 := Lib.hid e1
            have HE2 := Lib.hid e2
            have HF1 := Lib.hid (HV2F.out.front M)
            have HF2 := Lib.hid (HV3.out.1.front M)
            clear e1 e2 HV2 HV2F HV3
            go_wp2_with fail
            refine HT1.out.mono ?_
            rintro e wg ⟨v4, rfl, hO4, hc4⟩
            obtain ⟨A4, C4, rfl⟩ := hO4.len
            have hs1 := rsame_any A4 _ C4 _ (L.take M) wg (hO4.read kdKv_ok (by rw [HE1.out]; omega)) (HF1.out.gr hc4) (by rw [HE1.out]; omega)
            rw [HE1.out] at hs1 ⊢
            have HS1 := Lib.hid hs1
            have HC4 := Lib.hid hc4
            clear hs1 hO4 hc4
            go_wp2_with fail
            refine HS1.out.mono ?_
            rintro e wh ⟨rfl, hch⟩
            have hth := HT2.out wh (HC4.out.trans hch)
            rw [show cutL (M : Int) (fromL L k0) = (fromL L k0).take M by rw [← HMM.out, HCL.out]] at hth
            have HTH := Lib.hid hth
            have HCH := Lib.hid (HC4.out.trans hch)
            clear hth hch
            go_wp2_with fail
            refine HTH.out.mono ?_
            rintro e wi ⟨v5, rfl, hO5, hc5⟩
            obtain ⟨A5, C5, rfl⟩ := hO5.len
            have hs2 := rsame_any A5 _ C5 _ ((fromL L k0).take M) wi (hO5.read kdKv_ok (by rw [HE2.out]; omega)) (HF2.out.gr (HCH.out.trans hc5)) (by rw [HE2.out]; omega)
            rw [HE2.out] at hs2 ⊢
            have HS2 := Lib.hid hs2
            have HC5 := Lib.hid (HCH.out.trans hc5)
            clear hs2 hO5 hc5
            go_wp2_with fail
            refine HS2.out.mono ?_
            rintro e wj ⟨rfl, hcj⟩
            have HFIN : Hid (Told w (.returned (.bool true)) wj) := Lib.hid ⟨rfl, HCW.out.trans (HCF.out.trans (HC5.out.trans hcj))⟩
            clear hcj
            go_wp2_with fail
            go_ret
            exact HFIN.out
          · have r1 : (M : Int) < (l : Int) := by omega
            obtain ⟨b1, o1, rfl⟩ := HV2.out.1.some' (by rw [← HV2.out.2]; omega)
            have e1 : (L.take M).length = M := by rw [List.length_take, ← HV2.out.2]; omega
            have r3 : (M : Int) ≤ (C2 : Int) := by have h1 := HV2.out.1.cap; rw [← HV2.out.2] at h1; omega
            have r2 : ¬ (M : Int) < (lf : Int) := by omega
            have e2 : ((fromL L k0).take M).length = lf := by rw [List.length_take, ← HV3.out.2]; omega
            have HE1 := Lib.hid e1
            have HE2 := Lib.hid e2
            have HF1 := Lib.hid (HV2F.out.front M)
            have HF2 := Lib.hid (HV3.out.1.front M)
            clear e1 e2 HV2 HV2F HV3
            go_wp2_with fail
            refine HT1.out.mono ?_
            rintro e wg ⟨v4, rfl, hO4, hc4⟩
            obtain ⟨A4, C4, rfl⟩ := hO4.len
            have hs1 := rsame_any A4 _ C4 _ (L.take M) wg (hO4.read kdKv_ok (by rw [HE1.out]; omega)) (HF1.out.gr hc4) (by rw [HE1.out]; omega)
            rw [HE1.out] at hs1 ⊢
            have HS1 := Lib.hid hs1
            have HC4 := Lib.hid hc4
            clear hs1 hO4 hc4
            go_wp2_with fail
            refine HS1.out.mono ?_
            rintro e wh ⟨rfl, hch⟩
            have hth := HT2.out wh (HC4.out.trans hch)
            rw [show cutL (M : Int) (fromL L k0) = (fromL L k0).take M by rw [← HMM.out, HCL.out]] at hth
            have HTH := Lib.hid hth
            have HCH := Lib.hid (HC4.out.trans hch)
            clear hth hch
            go_wp2_with fail
            refine HTH.out.mono ?_
            rintro e wi ⟨v5, rfl, hO5, hc5⟩
            obtain ⟨A5, C5, rfl⟩ := hO5.len
            have hs2 := rsame_any A5 _ C5 _ ((fromL L k0).take M) wi (hO5.read kdKv_ok (by rw [HE2.out]; omega)) (HF2.out.gr (HCH.out.trans hc5)) (by rw [HE2.out]; omega)
            rw [HE2.out] at hs2 ⊢
            have HS2 := Lib.hid hs2
            have HC5 := Lib.hid (HCH.out.trans hc5)
            clear hs2 hO5 hc5
            go_wp2_with fail
            refine HS2.out.mono ?_
            rintro e wj ⟨rfl, hcj⟩
            have HFIN : Hid (Told w (.returned (.bool true)) wj) := Lib.hid ⟨rfl, HCW.out.trans (HCF.out.trans (HC5.out.trans hcj))⟩
            clear hcj
            go_wp2_with fail
            go_ret
            exact HFIN.out
        · by_cases p2 : M < lf
          · have r1 : ¬ (M : Int) < (l : Int) := by omega
            have e1 : (L.take M).length = l := by rw [List.length_take, ← HV2.out.2]; omega
            have r2 : (M : Int) < (lf : Int) := by omega
            obtain ⟨b2, o2, rfl⟩ := HV3.out.1.some' (by rw [← HV3.out.2]; omega)
            have e2 : ((fromL L k0).take M).length = M := by rw [List.length_take, ← HV3.out.2]; omega
            have r4 : (M : Int) ≤ (C3 : Int) := by have h1 := HV3.out.1.cap; rw [← HV3.out.2] at h1; omega
            have HE1 := Lib.hid e1
            have HE2 := Lib.hid e2
            have HF1 := Lib.hid (HV2F.out.front M)
            have HF2 := Lib.hid (HV3.out.1.front M)
            clear e1 e2 HV2 HV2F HV3
            go_wp2_with fail
            refine HT1.out.mono ?_
            rintro e wg ⟨v4, rfl, hO4, hc4⟩
            obtain ⟨A4, C4, rfl⟩ := hO4.len
            have hs1 := rsame_any A4 _ C4 _ (L.take M) wg (hO4.read kdKv_ok (by rw [HE1.out]; omega)) (HF1.out.gr hc4) (by rw [HE1.out]; omega)
            rw [HE1.out] at hs1 ⊢
            have HS1 := Lib.hid hs1
            have HC4 := Lib.hid hc4
            clear hs1 hO4 hc4
            go_wp2_with fail
            refine HS1.out.mono ?_
            rintro e wh ⟨rfl, hch⟩
            have hth := HT2.out wh (HC4.out.trans hch)
            rw [show cutL (M : Int) (fromL L k0) = (fromL L k0).take M by rw [← HMM.out, HCL.out]] at hth
            have HTH := Lib.hid hth
            have HCH := Lib.hid (HC4.out.trans hch)
            clear hth hch
            go_wp2_with fail
            refine HTH.out.mono ?_
            rintro e wi ⟨v5, rfl, hO5, hc5⟩
            obtain ⟨A5, C5, rfl⟩ := hO5.len
            have hs2 := rsame_any A5 _ C5 _ ((fromL L k0).take M) wi (hO5.read kdKv_ok (by rw [HE2.out]; omega)) (HF2.out.gr (HCH.out.trans hc5)) (by rw [HE2.out]; omega)
            rw [HE2.out] at hs2 ⊢
            have HS2 := Lib.hid hs2
            have HC5 := Lib.hid (HCH.out.trans hc5)
            clear hs2 hO5 hc5
            go_wp2_with fail
            refine HS2.out.mono ?_
            rintro e wj ⟨rfl, hcj⟩
            have HFIN : Hid (Told w (.returned (.bool true)) wj) := Lib.hid ⟨rfl, HCW.out.trans (HCF.out.trans (HC5.out.trans hcj))⟩
            clear hcj
            go_wp2_with fail
            go_ret
            exact HFIN.out
          · have r1 : ¬ (M : Int) < (l : Int) := by omega
            have e1 : (L.take M).length = l := by rw [List.length_take, ← HV2.out.2]; omega
            have r2 : ¬ (M : Int) < (lf : Int) := by omega
            have e2 : ((fromL L k0).take M).length = lf := by rw [List.length_take, ← HV3.out.2]; omega
            have HE1 := Lib.hid e1
            have HE2 := Lib.hid e2
            have HF1 := Lib.hid (HV2F.out.front M)
            have HF2 := Lib.hid (HV3.out.1.front M)
            clear e1 e2 HV2 HV2F HV3
            go_wp2_with fail
            refine HT1.out.mono ?_
            rintro e wg ⟨v4, rfl, hO4, hc4⟩
            obtain ⟨A4, C4, rfl⟩ := hO4.len
            have hs1 := rsame_any A4 _ C4 _ (L.take M) wg (hO4.read kdKv_ok (by rw [HE1.out]; omega)) (HF1.out.gr hc4) (by rw [HE1.out]; omega)
            rw [HE1.out] at hs1 ⊢
            have HS1 := Lib.hid hs1
            have HC4 := Lib.hid hc4
            clear hs1 hO4 hc4
            go_wp2_with fail
            refine HS1.out.mono ?_
            rintro e wh ⟨rfl, hch⟩
            have hth := HT2.out wh (HC4.out.trans hch)
            rw [show cutL (M : Int) (fromL L k0) = (fromL L k0).take M by rw [← HMM.out, HCL.out]] at hth
            have HTH := Lib.hid hth
            have HCH := Lib.hid (HC4.out.trans hch)
            clear hth hch
            go_wp2_with fail
            refine HTH.out.mono ?_
            rintro e wi ⟨v5, rfl, hO5, hc5⟩
            obtain ⟨A5, C5, rfl⟩ := hO5.len
            have hs2 := rsame_any A5 _ C5 _ ((fromL L k0).take M) wi (hO5.read kdKv_ok (by rw [HE2.out]; omega)) (HF2.out.gr (HCH.out.trans hc5)) (by rw [HE2.out]; omega)
            rw [HE2.out] at hs2 ⊢
            have HS2 := Lib.hid hs2
            have HC5 := Lib.hid (HCH.out.trans hc5)
            clear hs2 hO5 hc5
            go_wp2_with fail
            refine HS2.out.mono ?_
            rintro e wj ⟨rfl, hcj⟩
            have HFIN : Hid (Told w (.returned (.bool true)) wj) := Lib.hid ⟨rfl, HCW.out.trans (HCF.out.trans (HC5.out.trans hcj))⟩
            clear hcj
            go_wp2_with fail
            go_ret
            exact HFIN.out
#print axioms treeDoes_of
end Go.Proofs.Ytkpgaejmhddkdaa
