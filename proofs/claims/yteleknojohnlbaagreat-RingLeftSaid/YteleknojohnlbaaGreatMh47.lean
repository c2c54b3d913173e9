/-
  RingLeft, walked.
-/
import Derived.Test.YteleknojohnlbaaGreatMh46
import Derived.Test.YteleknojohnlbaaGreatMh17
import Derived.Deep.CutBlock
namespace Go.Proofs.YteleknojohnlbaaGreat
open Go.RowKit
set_option linter.unusedVariables false
set_option maxRecDepth 100000
set_option linter.unusedSimpArgs false

/-! ### what was put together, read again -/
theorem OutW.read {w0 wr : World} {A : Option Addr} {n C : Nat} {out : List (List Nat)} (h : OutW w0 wr (.slice A n C) out) (hn : n = out.length) (h0 : 0 < out.length) : ∃ b o, A = some ⟨b, o, none⟩ ∧ ∀ (i : Nat) (bt : List Nat), out[i]? = some bt → ∃ A' C', wr.cell? ⟨b, o + i, none⟩ = some (.slice A' bt.length C') ∧ RowV w0 (.slice A' bt.length C') bt.length (Cod.litZ bt) := by
  obtain ⟨vs, h1, h2, h3⟩ := h.own
  rcases h1.2 with ⟨_, q⟩ | ⟨g, cap, cur, e, hb, hg, _⟩
  · omega
  · injection e with e _ _
    subst e
    refine ⟨g, 0, rfl, fun i bt hbt => ?_⟩
    have hi := (List.getElem?_eq_some_iff.1 hbt).1
    have hv : vs[i]? = some (vs[i]'(by omega)) := List.getElem?_eq_getElem (by omega)
    obtain ⟨bt', e1, hs, hr, _⟩ := h3 i _ hv
    rw [hbt] at e1
    injection e1 with e1
    subst e1
    obtain ⟨A', C', e2, _⟩ := id hr
    have c0 := World.ownsRow.cells h1 (g := g) rfl i _ hv
    rw [add_pl] at c0
    rw [e2] at c0 hr
    exact ⟨A', C', c0, hr⟩
theorem ad_out (s : AdS) (L : List (List Nat)) : (adTo s L).out.length ≤ s.out.length + L.length := by
  refine snocI (P := fun l => (adTo s l).out.length ≤ s.out.length + l.length) (Nat.le_refl _) (fun l i ih => ?_) L
  rw [adTo_snoc]
  unfold adStep
  split
  · split
    · rw [List.length_append]; exact Nat.le_trans ih (by omega)
    · split
      · show ((adTo s l).out ++ [i]).length ≤ _
        rw [List.length_append, List.length_append]
        simp only [List.length_cons, List.length_nil]
        omega
      · rw [List.length_append]; exact Nat.le_trans ih (by omega)
  · rw [List.length_append]; exact Nat.le_trans ih (by omega)
/-- What region 12 reads. -/
structure HoldF (H F : Nat) (n : Gn) (f : Fa) (b o : Nat) (ki : Int) (k : Nat) (qi : Int) (w : World) : Prop where
  x0 : w.cell? ⟨H, 0, none⟩ = some (.int .i64 (n.W : Int))
  k0 : w.cell? ⟨F, 0, none⟩ = some (.int .i64 f.kind)
  k2 : w.cell? ⟨F, 2, none⟩ = some (.int .i64 f.off)
  m0 : w.cell? ⟨F, 5, none⟩ = some (.int .u8 (f.k0 : Int))
  m1 : w.cell? ⟨F, 6, none⟩ = some (.int .u8 (f.k1 : Int))
  m2 : w.cell? ⟨F, 7, none⟩ = some (.int .u8 (f.k2 : Int))
  m3 : w.cell? ⟨F, 8, none⟩ = some (.int .u8 (f.k3 : Int))
  q : w.cell? ⟨b, o + k, none⟩ = some (.int .i64 qi)
theorem HoldF.gr {H F : Nat} {n : Gn} {f : Fa} {b o : Nat} {ki : Int} {k : Nat} {qi : Int} {w w' : World} (h : HoldF H F n f b o ki k qi w) (c : Ch (fun _ => False) w w') : HoldF H F n f b o ki k qi w' :=
  ⟨c.cell h.x0 (fun f => f), c.cell h.k0 (fun f => f), c.cell h.k2 (fun f => f), c.cell h.m0 (fun f => f), c.cell h.m1 (fun f => f), c.cell h.m2 (fun f => f), c.cell h.m3 (fun f => f), c.cell h.q (fun f => f)⟩
theorem built_fa (f : Fa) (a : Int) (w : World) : (Instr.build 48 #[(0, .int .i64 f.kind), (1, .int .i64 a), (2, .int .i64 f.off), (5, .agg #[.int .u8 (f.k0 : Int), .int .u8 (f.k1 : Int), .int .u8 (f.k2 : Int), .int .u8 (f.k3 : Int)])]).run Tryz.prog w = .ok (.agg (faC (faAt f a))) w := run_build w _ _ _ (by kernel_rfl)
theorem exec_fa {o : Oper} {a : Act} {w : World} (f : Fa) (q : Int) (ho : o.op = .build 48 #[(0, .tmp 115), (1, .tmp 126), (2, .tmp 128), (5, .tmp 130)]) (h0 : a.eval (.tmp 115) = .int .i64 f.kind) (h1 : a.eval (.tmp 126) = .int .i64 q) (h2 : a.eval (.tmp 128) = .int .i64 f.off) (h3 : a.eval (.tmp 130) = .agg #[.int .u8 (f.k0 : Int), .int .u8 (f.k1 : Int), .int .u8 (f.k2 : Int), .int .u8 (f.k3 : Int)]) :
    (execOp a.eval o).run Tryz.prog w = .ok (.value (.agg (faC (faAt f q)))) w := by
  refine exec_build _ _ ho _ ?_
  rw [show ((#[(0, .tmp 115), (1, .tmp 126), (2, .tmp 128), (5, .tmp 130)] : Array (Nat × Operand)).map fun (i, x) => (i, a.eval x)) = #[(0, .int .i64 f.kind), (1, .int .i64 q), (2, .int .i64 f.off), (5, .agg #[.int .u8 (f.k0 : Int), .int .u8 (f.k1 : Int), .int .u8 (f.k2 : Int), .int .u8 (f.k3 : Int)])] by simp [h0, h1, h2, h3]]
  exact built_fa f q w
set_option maxHeartbeats 25600000 in
theorem ringLeft_of {A Ah : Option Addr} {m C nh Ch' : Nat} {q : Nat → Br} {hu : Nat → Int} (g : Ge) (start : Int) (f : Fa) (w : World) (hst : -9223372036854775808 ≤ start ∧ start ≤ 9223372036854775807) (hR0 : RowBs w A m C q) (hH : IntV w (.slice Ah nh Ch') nh hu ∧ ∀ i, i < nh → I64 (hu i)) (hf : FaOk f) :
    Calls Tryz.prog 5 #[.agg (geC g), .int .i64 start, .slice A m C, .slice Ah nh Ch', .agg (faC f)] w (Told w) := by
  obtain ⟨w1, H, hR⟩ := geR w g
  obtain ⟨w1b, F, hF⟩ := boxR w1 (faC f) 48
  have HR := Lib.hid hR
  have HF := Lib.hid hF
  have HC1 := Lib.hid (hR.ch.trans hF.ch)
  have HAW := Lib.hid (rawake_any w1b)
  obtain ⟨N, hN⟩ : ∃ N : Nat → Nat, N = fun c => (q c).n := ⟨_, rfl⟩
  obtain ⟨Z, hZ⟩ : ∃ Z : Nat → Nat → Nat, Z = fun c => (q c).z := ⟨_, rfl⟩
  have HLM : Hid (∀ w2, Ch (fun _ => False) w w2 → LsV w2 A m C N) := Lib.hid fun w2 k => by rw [hN]; exact (hR0.gr k).ls
  have HLB : Hid (smallB N m = true → BsV w A m C N Z) := Lib.hid (by rw [hN, hZ]; exact small_bs hR0)
  have HH := Lib.hid hH
  have HFO := Lib.hid hf
  clear hR hF hR0 hN hZ hH hf
  go_enter Tryz.func5, Tryz.ntmps5
  go_wp2_with (first | ((with_reducible refine wpList_isOp (.box 23 (.tmp 0)) rfl ?_); refine wpList_boxing _ w1 rfl 23 (.tmp 0) rfl (geC g) H rfl (by exact HR.out.sz) (by exact HR.out.al) ?_) | ((with_reducible refine wpList_isOp (.box 48 (.tmp 4)) rfl ?_); refine wpList_boxing _ w1b rfl 48 (.tmp 4) rfl (faC f) F rfl (by exact HF.out.sz) (by exact HF.out.al) ?_) | fail)
  refine HAW.out.mono ?_
  rintro e w2 ⟨rfl, hc2⟩
  have HC2 := Lib.hid (HC1.out.trans hc2)
  have HSM := Lib.hid (small_any A m C N w2 (HLM.out w2 HC2.out))
  clear HAW
  go_wp2_with fail
  refine HSM.out.mono ?_
  rintro e w3 ⟨rfl, rfl⟩
  obtain ⟨sm, hsm⟩ : ∃ sm, sm = smallB N m := ⟨_, rfl⟩
  rw [show (if m ≤ 12 then fewTo N 1500 m else false) = sm from hsm.symm]
  have HSB := Lib.hid hsm
  obtain ⟨x0, x1, x2, x3⟩ := HR.out.x.gr (HF.out.ch.trans hc2)
  have HBK := Lib.hid (lawBlank_any 7 g w2 ⟨by omega, by omega⟩)
  have HC2b := Lib.hid hc2
  clear hsm HSM hc2
  go_wp2_with fail
  refine HBK.out.mono ?_
  rintro e w4 hb
  have hf4 : ∀ wx, Ch (fun _ => False) w2 wx → (wx.cell? ⟨F, 0, none⟩ = some (.int .i64 f.kind) ∧ wx.cell? ⟨F, 2, none⟩ = some (.int .i64 f.off)) ∧ (wx.cell? ⟨F, 5, none⟩ = some (.int .u8 (f.k0 : Int)) ∧ wx.cell? ⟨F, 6, none⟩ = some (.int .u8 (f.k1 : Int)) ∧ wx.cell? ⟨F, 7, none⟩ = some (.int .u8 (f.k2 : Int)) ∧ wx.cell? ⟨F, 8, none⟩ = some (.int .u8 (f.k3 : Int))) := fun wx k => by
    have hx := ((HC2b.out.trans k).block F (blk_lt HF.out.cx) (fun f => f)).trans HF.out.cx
    exact ⟨⟨blk_cell hx, blk_cell hx⟩, blk_cell hx, blk_cell hx, blk_cell hx, blk_cell hx⟩
  have HF4 := Lib.hid hf4
  cases hbk : blkOk 7 g
  · obtain ⟨rfl, hc4⟩ := hb.1 hbk
    have HCF := Lib.hid (HC2.out.trans hc4)
    clear hb hbk hc4 x0 x1 x2 x3 HBK hf4
    cases sm
    · go_wp2
      go_ret
      exact ⟨rfl, HCF.out⟩
    · go_wp2
      go_ret
      exact ⟨rfl, HCF.out⟩
  have hmg : mayG g = true := by unfold blkOk at hbk; exact (Bool.and_eq_true_iff.1 hbk).1
  obtain ⟨n, hn, rfl⟩ := may_nat hmg
  obtain ⟨B, rfl, hO⟩ := hb.2 n hbk rfl
  have hW16 : (n.W : Int) ≤ 16 := by
    unfold blkOk at hbk
    have := (Bool.and_eq_true_iff.1 (Bool.and_eq_true_iff.1 hbk).2).1
    exact of_decide_eq_true this
  have HO := Lib.hid hO
  have HNK := Lib.hid hn
  have HW16 := Lib.hid hW16
  have HCF := Lib.hid (HC2.out.trans hO.ch)
  obtain ⟨⟨k0, k2⟩, m0, m1, m2, m3⟩ := hf4 w4 hO.ch
  clear hb hbk hmg hO hn HBK x0 x1 x2 x3 hf4 hW16
  cases sm
  · go_wp2
    go_ret
    exact ⟨rfl, HCF.out⟩
  by_cases h1 : start < 0
  · go_wp2
    go_ret
    exact ⟨rfl, HCF.out⟩
  by_cases h2 : 1000000 < start
  · go_wp2
    go_ret
    exact ⟨rfl, HCF.out⟩
  by_cases h3 : f.kind < 1
  · go_wp2
    go_ret
    exact ⟨rfl, HCF.out⟩
  by_cases h4 : 3 < f.kind
  · go_wp2
    go_ret
    exact ⟨rfl, HCF.out⟩
  by_cases h5' : f.off < 0
  · go_wp2
    go_ret
    exact ⟨rfl, HCF.out⟩
  by_cases h6 : 252 < f.off
  · go_wp2
    go_ret
    exact ⟨rfl, HCF.out⟩
  obtain ⟨mz, hmz⟩ : ∃ mz, mz = (((f.k0 : Int) == 0) && (((f.k1 : Int) == 0) && (((f.k2 : Int) == 0) && ((f.k3 : Int) == 0)))) := ⟨_, rfl⟩
  have HE4 : ∀ wx, (Op.equalIn 10000 46 (.agg #[.int .u8 (f.k0 : Int), .int .u8 (f.k1 : Int), .int .u8 (f.k2 : Int), .int .u8 (f.k3 : Int)]) (.agg #[.int .u8 0, .int .u8 0, .int .u8 0, .int .u8 0])).run Tryz.prog wx = .ok mz wx := fun wx => by rw [hmz]; exact four_eq _ _ _ _ wx
  have HMZ := Lib.hid hmz
  clear hmz
  cases mz
  case true =>
    go_wp2
    go_ret
    exact ⟨rfl, HCF.out⟩
  obtain ⟨st, rfl⟩ : ∃ st : Nat, start = (st : Int) := ⟨start.toNat, by omega⟩
  have hm12 := small_le HSB.out.symm
  have HM12 := Lib.hid hm12
  have HL := Lib.hid (HLB.out HSB.out.symm)
  obtain ⟨x0, x1, x2, x3⟩ := HR.out.x.gr ((HF.out.ch.trans HC2b.out).trans HO.out.ch)
  have hokN : okN 7 n.ge 3 (st : Int) (st : Int) 9 = true := by
    unfold okN
    have hw : wordsTo (wordsN 7 3 (st : Int) (st : Int) 9) 5 = true := by
      have e : wordsTo (wordsN 7 3 (st : Int) (st : Int) 9) 5 = (((((true && wordB 7) && wordB 3) && wordB (st : Int)) && wordB (st : Int)) && wordB 9) := rfl
      rw [e, wordB_iff.2 (show 0 ≤ (7 : Int) ∧ (7 : Int) ≤ 4294967295 by omega), wordB_iff.2 (show 0 ≤ (3 : Int) ∧ (3 : Int) ≤ 4294967295 by omega), wordB_iff.2 (show 0 ≤ (st : Int) ∧ (st : Int) ≤ 4294967295 by omega), wordB_iff.2 (show 0 ≤ (9 : Int) ∧ (9 : Int) ≤ 4294967295 by omega)]
      rfl
    rw [ok_may HNK.out, hw]
    show (true && (true && inB ((st : Int) - (st : Int)) 0 (n.W : Int))) = true
    rw [Bool.true_and, Bool.true_and]
    exact inB_true.2 ⟨by omega, by omega⟩
  have HNW := Lib.hid (rgNew_any B 7 n.ge 3 (st : Int) (st : Int) 9 w4)
  have HS0 := Lib.hid (show st ≤ 1000000 by omega)
  clear hm12
  go_wp2_with fail
  refine HNW.out.mono ?_
  rintro e w5 hnw
  obtain ⟨R, rfl, hR1, hR2, hc5⟩ : ∃ R, e = .returned (.tuple #[.pointer (some ⟨R, 0, none⟩), .int .i64 0]) ∧ w4.heap.size ≤ R ∧ RgIs w5 R (boX B n 7 3 st 9) ∧ Ch (fun _ => False) w4 w5 := by unfold NewPost at hnw; rw [hokN] at hnw; exact hnw
  have h5 := RgW.start HO.out hc5 hR2 hR1 rfl
  obtain ⟨Cc, T, hBO⟩ := bo_all (B := B) (vol := 7) (ep := 3) (st := st) (ch := 9) (L := rowsL N Z m) HNK.out ⟨by omega, by omega⟩ ⟨by omega, by omega⟩ (by omega) ⟨by omega, by omega⟩ (rowsL_b HL.out)
  have hsz := secs_max HNK.out
  have hlm0 := bkD_lims 7 (secsG n)
  have HAP := Lib.hid (appended_any w2 B R (bkD 7 (secsG n)) (boX B n 7 3 st 9) A m C 2564 N Z w5 h5 (boX_ok HNK.out ⟨by omega, by omega⟩ ⟨by omega, by omega⟩ ⟨by omega, by omega⟩ ⟨by omega, by omega⟩) (HL.out.gr HC2.out) HM12.out (hlm0.1.mono hsz) (hlm0.2.mono hsz) (by omega))
  have hlm1 := ad_lim (s := ⟨bkD 7 (secsG n), boX B n 7 3 st 9, [], true⟩) (t := 2564) (hlm0.1.mono hsz) (hlm0.2.mono hsz) (rowsL N Z m)
  rw [rowsL_len] at hlm1
  have HLM1 := Lib.hid (show Lim (ad0 B n 7 3 st 9 (rowsL N Z m)).d 22532 ∧ LimM (ad0 B n 7 3 st 9 (rowsL N Z m)).d 22532 from ⟨hlm1.1.mono (by have := HM12.out; omega), hlm1.2.mono (by have := HM12.out; omega)⟩)
  have HBO := Lib.hid hBO
  have HKD := Lib.hid (show FaBad f from ⟨⟨by omega, by omega⟩, ⟨by omega, by omega⟩, fun q => by
    have e := HMZ.out
    rw [q.1, q.2.1, q.2.2.1, q.2.2.2] at e
    exact absurd e (by decide)⟩)
  clear hnw hR1 hR2 hc5 h5 hBO hsz hlm0 hlm1 hokN HNW x0 x1 x2 x3 h1 h2 h3 h4 h5' h6
  go_wp2_with fail
  refine HAP.out.mono ?_
  rintro e w6 ⟨v6, rfl, hAD⟩
  obtain ⟨s, hs⟩ : ∃ s, s = ad0 B n 7 3 st 9 (rowsL N Z m) := ⟨_, rfl⟩
  have hA6 : AdW w2 B R s v6 w6 := by rw [hs]; exact hAD
  have hok : (adTo ⟨bkD 7 (secsG n), boX B n 7 3 st 9, [], true⟩ (rowsL N Z m)).ok = true := HBO.out.ok
  rw [hok]
  have HS := Lib.hid hs
  have HA6 := Lib.hid hA6
  obtain ⟨x0, x1, x2, x3⟩ := HR.out.x.gr ((HF.out.ch.trans HC2b.out).trans hA6.rg.ch)
  have HW7 := Lib.hid (show ((n.W : Int) ≤ 16 ∧ n.W ≤ 512) from ⟨HW16.out, by have := HNK.out.w2; omega⟩)
  obtain ⟨Av, Cv, rfl⟩ := hA6.out.len
  obtain ⟨mm, hmm⟩ : ∃ mm, mm = s.out.length := ⟨_, rfl⟩
  rw [← hmm] at HA6 hA6 ⊢
  have HMM := Lib.hid hmm
  have HIV := Lib.hid (show Hid (AdW w2 B R ⟨huD n f hu s.d 0, s.x, s.out, s.ok⟩ (.slice Av mm Cv) w6) from HA6)
  have hnh : nh ≤ 140737488351232 := HH.out.1.len.choose_spec.choose_spec.2
  clear hAD hs hA6 hok HAP hmm m0 m1 m2 m3 k0 k2
  go_upto_block 0 with fail
  go_cut [18] (fun i wx => ∃ k : Nat, (k = nh ∨ k = n.W) ∧ k ≤ n.W ∧ i = .int .i64 k ∧ Hid (AdW w2 B R ⟨huD n f hu s.d k, s.x, s.out, s.ok⟩ (.slice Av mm Cv) wx))
  case first =>
    go_wp2_with fail
    go_loopw [18, 89, 90, 91, 92, 93, 94, 95, 96, 97, 98, 99, 100, 101, 102, 103, 104, 105, 106, 107, 108, 109, 110, 111, 112, 113, 114, 115, 116, 117, 118, 119, 120, 121, 122, 123, 124, 125, 126, 127, 128, 129, 130, 131, 132] (fun i _ _ _ _ _ _ _ _ _ _ _ _ _ _ _ _ _ _ _ _ _ _ _ _ _ _ _ _ _ _ _ _ _ _ _ _ _ _ _ _ _ _ _ _ wr => ∃ k : Nat, k ≤ nh ∧ k ≤ n.W ∧ i = .int .i64 k ∧ Hid (Hid (AdW w2 B R ⟨huD n f hu s.d k, s.x, s.out, s.ok⟩ (.slice Av mm Cv) wr))) (fun i _ _ _ _ _ _ _ _ _ _ _ _ _ _ _ _ _ _ _ _ _ _ _ _ _ _ _ _ _ _ _ _ _ _ _ _ _ _ _ _ _ _ _ _ _ => nh - (intOf i).toNat)
    case atStart => exact ⟨0, Nat.zero_le _, Nat.zero_le _, rfl, HIV⟩
    case round =>
      obtain ⟨k, hk1, hk2, rfl, HK0⟩ := hrel
      have HK : Hid (AdW w2 B R ⟨huD n f hu s.d k, s.x, s.out, s.ok⟩ (.slice Av mm Cv) wr) := HK0.out
      clear HIV HK0 x0 x1 x2 x3
      have HGX := Lib.hid (HR.out.x.gr ((HF.out.ch.trans HC2b.out).trans HK.out.rg.ch))
      have x0 : wr.cell? ⟨H, 0, none⟩ = some (.int .i64 (n.W : Int)) := HGX.out.x0
      have i1 : (0 : Int) ≤ (k : Int) := Int.natCast_nonneg _
      have hw := HW7.out.1
      by_cases hlt : k < nh
      · have i2 : (k : Int) < (nh : Int) := by omega
        by_cases hlW : k < n.W
        · have i3 : (k : Int) < (n.W : Int) := by omega
          obtain ⟨b, o, hAh, hcs⟩ := HH.out.1.at (by omega)
          subst hAh
          have hc0 := HC2.out.cell (hcs k hlt) (fun f => f)
          have c1 := HK.out.rg.ch.cell hc0 (fun f => f)
          obtain ⟨⟨k0, k2⟩, m0, m1, m2, m3⟩ := HF4.out w2 (Ch.refl _ _)
          have HB2 : Hid (HoldF H F n f b o (k : Int) k (hu k) w2) := Lib.hid ⟨(HR.out.x.gr (HF.out.ch.trans HC2b.out)).x0, k0, k2, m0, m1, m2, m3, hc0⟩
          have HLT := Lib.hid (And.intro hlt hlW)
          clear hcs hc0 k0 k2 m0 m1 m2 m3
          by_cases e1 : hu k = 1
          · obtain ⟨M, hMe⟩ : ∃ M, M = huM hu k := ⟨_, rfl⟩
            have hM2 : M < 2 := by rw [hMe]; unfold huM; omega
            have hMi : hu k - 1 = (M : Int) := by rw [hMe]; unfold huM; omega
            obtain ⟨q1, hq1⟩ : ∃ q1 : Int, q1 = (adN n M k : Int) := ⟨_, rfl⟩
            have hmul : M * n.W ≤ 1 * 16 := Nat.mul_le_mul (by omega) (by omega)
            have hmi : (M : Int) * (n.W : Int) = ((M * n.W : Nat) : Int) := by simp
            have hqe : (4 : Int) + (M : Int) * (n.W : Int) + (k : Int) = q1 := by rw [hq1, hmi]; unfold adN; omega
            have HV5 := Lib.hid (show IntKind.i64.wrap 0 = (M : Int) by rw [hMe]; unfold huM; rw [e1]; rfl)
            have HV1 := Lib.hid (show wrap64 (hu k - 1) = (M : Int) by rw [hMi]; exact IntWalk.wrap64_in _ ⟨by omega, by omega⟩)
            have HV2 := Lib.hid (show wrap64 ((M : Int) * (n.W : Int)) = (M : Int) * (n.W : Int) from IntWalk.wrap64_in _ ⟨by rw [hmi]; omega, by rw [hmi]; omega⟩)
            have HV3 := Lib.hid (show wrap64 (4 + (M : Int) * (n.W : Int)) = 4 + (M : Int) * (n.W : Int) from IntWalk.wrap64_in _ ⟨by rw [hmi]; omega, by rw [hmi]; omega⟩)
            have HV4 := Lib.hid (show wrap64 (4 + (M : Int) * (n.W : Int) + (k : Int)) = q1 by rw [hqe]; exact IntWalk.wrap64_in _ ⟨by rw [← hqe, hmi]; omega, by rw [← hqe, hmi]; omega⟩)
            have hI : I64 q1 := by unfold I64; rw [← hqe, hmi]; omega
            obtain ⟨wd, hwd⟩ : ∃ wd, wd = wr.drew := ⟨_, rfl⟩
            have hcd : Ch (fun _ => False) wr wd := by rw [hwd]; exact (Ch.refl _ wr).drew
            have HWD := Lib.hid hwd
            have hRD := HK.out.rg.gr hcd
            have HSD := Lib.hid (HB2.out.gr hRD.ch)
            have hstep : huD n f hu s.d (k + 1) = faultD (huD n f hu s.d k) (faAt f q1) := by
              rw [hq1, hMe]
              exact if_pos (Or.inl e1)
            have hlm := hu_lim (g := n) (f := f) (q := hu) (d := s.d) (t := 22532) (by rw [HS.out]; exact HLM1.out.1) (by rw [HS.out]; exact HLM1.out.2) k
            have HFC := Lib.hid (hRD.call (d' := faultD (huD n f hu s.d k) (faAt f q1)) (r := .int .i64 (faultE (huD n f hu s.d k) (faAt f q1))) (F := 28) (args := #[.pointer (some ⟨B, 0, none⟩), .agg (faC (faAt f q1))]) fun p hp h => by
              subst hp
              exact fault_any _ p _ (faAt f q1) (22532 + k) wd h (faAt_ok HFO.out hI) hlm.1 hlm.2 (by omega))
            have HNEXT : Hid (∀ w5, RgW w2 (fun i => (Value.slice Av mm Cv).ownBlock = some i) B R (faultD (huD n f hu s.d k) (faAt f q1)) s.x w5 → Ch (fun i => w2.heap.size ≤ i ∧ ¬ (Value.slice Av mm Cv).ownBlock = some i) wd w5 → AdW w2 B R ⟨huD n f hu s.d (k + 1), s.x, s.out, s.ok⟩ (.slice Av mm Cv) w5) := Lib.hid fun w5 a1 a2 => ⟨by rw [hstep]; exact a1, (HK.out.out.ch hcd fun _ _ q => q).ch a2 fun i hi q => q.2 hi⟩
            obtain ⟨fe, hfe⟩ : ∃ fe, fe = faultE (huD n f hu s.d k) (faAt f q1) := ⟨_, rfl⟩
            rw [← hfe] at HFC
            clear hMe hMi hmul hmi hqe hI hwd hcd hRD hstep hlm hfe hq1
            go_upto_region 12 with fail
            refine wp_region_held (S := (HoldF H F n f b o (k : Int) k (hu k))) (by kernel_rfl) ?_
            change wpAnyH _ _ _ _ _ _ _ _ (World.drew _)
            rw [← HWD.out]
            refine wpAnyH_take (i := 0) (oi := ⟨some 113, .move (.tmp 13), _, _, _, none⟩) (v := .pointer (some ⟨B, 0, none⟩)) rfl (by kernel_rfl) (by kernel_rfl) (by kernel_rfl) (fun _ _ _ h => h) (Or.inl ⟨by rfl, fun w' hS => ?_⟩) HSD.out ?_
            · clear hS; go_simp
            simp only [Act.put, List.setIfInBounds_toArray, List.set_cons_zero, List.set_cons_succ]
            refine wpAnyH_take (i := 1) (oi := ⟨some 114, .fieldAddr 48 (.tmp 9) 0, _, _, _, none⟩) (v := .pointer (some ⟨F, 0, none⟩)) rfl (by kernel_rfl) (by kernel_rfl) (by kernel_rfl) (fun _ _ _ h => h) (Or.inl ⟨by rfl, fun w' hS => ?_⟩) HSD.out ?_
            · clear hS; go_simp
            simp only [Act.put, List.setIfInBounds_toArray, List.set_cons_zero, List.set_cons_succ]
            refine wpAnyH_take (i := 2) (oi := ⟨some 115, .load 3 (.tmp 114), _, _, _, none⟩) (v := .int .i64 f.kind) rfl (by kernel_rfl) (by kernel_rfl) (by kernel_rfl) (fun _ _ _ h => h) (Or.inl ⟨by rfl, fun w' hS => ?_⟩) HSD.out ?_
            · have s := hS.k0; clear hS; go_simp
            simp only [Act.put, List.setIfInBounds_toArray, List.set_cons_zero, List.set_cons_succ]
            refine wpAnyH_take (i := 3) (oi := ⟨some 116, .move (.tmp 3), _, _, _, none⟩) (v := .slice (some ⟨b, o, none⟩) nh Ch') rfl (by kernel_rfl) (by kernel_rfl) (by kernel_rfl) (fun _ _ _ h => h) (Or.inl ⟨by rfl, fun w' hS => ?_⟩) HSD.out ?_
            · clear hS; go_simp
            simp only [Act.put, List.setIfInBounds_toArray, List.set_cons_zero, List.set_cons_succ]
            refine wpAnyH_take (i := 4) (oi := ⟨some 117, .move (.tmp 18), _, _, _, none⟩) (v := .int .i64 (k : Int)) rfl (by kernel_rfl) (by kernel_rfl) (by kernel_rfl) (fun _ _ _ h => h) (Or.inl ⟨by rfl, fun w' hS => ?_⟩) HSD.out ?_
            · clear hS; go_simp
            simp only [Act.put, List.setIfInBounds_toArray, List.set_cons_zero, List.set_cons_succ]
            refine wpAnyH_take (i := 5) (oi := ⟨some 118, .indexAddr 45 (.tmp 116) (.tmp 117), _, _, _, none⟩) (v := .pointer (some ⟨b, o + k, none⟩)) rfl (by kernel_rfl) (by kernel_rfl) (by kernel_rfl) (fun _ _ _ h => h) (Or.inl ⟨by rfl, fun w' hS => ?_⟩) HSD.out ?_
            · clear hS; go_simp
            simp only [Act.put, List.setIfInBounds_toArray, List.set_cons_zero, List.set_cons_succ]
            refine wpAnyH_take (i := 6) (oi := ⟨some 119, .load 3 (.tmp 118), _, _, _, none⟩) (v := .int .i64 (hu k)) rfl (by kernel_rfl) (by kernel_rfl) (by kernel_rfl) (fun _ _ _ h => h) (Or.inl ⟨by rfl, fun w' hS => ?_⟩) HSD.out ?_
            · have s := hS.q; clear hS; go_simp
            simp only [Act.put, List.setIfInBounds_toArray, List.set_cons_zero, List.set_cons_succ]
            refine wpAnyH_take (i := 7) (oi := ⟨some 120, .binOp .sub 3 (.tmp 119) (.const (.int .i64 1)) 3, _, _, _, none⟩) (v := .int .i64 (M : Int)) rfl (by kernel_rfl) (by kernel_rfl) (by kernel_rfl) (fun _ _ _ h => h) (Or.inl ⟨by rfl, fun w' hS => ?_⟩) HSD.out ?_
            · clear hS; go_simp; exact HV5.out
            simp only [Act.put, List.setIfInBounds_toArray, List.set_cons_zero, List.set_cons_succ]
            refine wpAnyH_take (i := 8) (oi := ⟨some 121, .fieldAddr 23 (.tmp 5) 0, _, _, _, none⟩) (v := .pointer (some ⟨H, 0, none⟩)) rfl (by kernel_rfl) (by kernel_rfl) (by kernel_rfl) (fun _ _ _ h => h) (Or.inl ⟨by rfl, fun w' hS => ?_⟩) HSD.out ?_
            · clear hS; go_simp
            simp only [Act.put, List.setIfInBounds_toArray, List.set_cons_zero, List.set_cons_succ]
            refine wpAnyH_take (i := 9) (oi := ⟨some 122, .load 3 (.tmp 121), _, _, _, none⟩) (v := .int .i64 (n.W : Int)) rfl (by kernel_rfl) (by kernel_rfl) (by kernel_rfl) (fun _ _ _ h => h) (Or.inl ⟨by rfl, fun w' hS => ?_⟩) HSD.out ?_
            · have s := hS.x0; clear hS; go_simp
            simp only [Act.put, List.setIfInBounds_toArray, List.set_cons_zero, List.set_cons_succ]
            refine wpAnyH_take (i := 10) (oi := ⟨some 123, .binOp .mul 3 (.tmp 120) (.tmp 122) 3, _, _, _, none⟩) (v := .int .i64 (M * n.W : Int)) rfl (by kernel_rfl) (by kernel_rfl) (by kernel_rfl) (fun _ _ _ h => h) (Or.inl ⟨by rfl, fun w' hS => ?_⟩) HSD.out ?_
            · clear hS; go_simp; rw [IntWalk.i64_left]; exact HV2.out
            simp only [Act.put, List.setIfInBounds_toArray, List.set_cons_zero, List.set_cons_succ]
            refine wpAnyH_take (i := 11) (oi := ⟨some 124, .binOp .add 3 (.const (.int .i64 4)) (.tmp 123) 3, _, _, _, none⟩) (v := .int .i64 (4 + M * n.W : Int)) rfl (by kernel_rfl) (by kernel_rfl) (by kernel_rfl) (fun _ _ _ h => h) (Or.inl ⟨by rfl, fun w' hS => ?_⟩) HSD.out ?_
            · clear hS; go_simp; rw [IntWalk.i64_left]; exact HV3.out
            simp only [Act.put, List.setIfInBounds_toArray, List.set_cons_zero, List.set_cons_succ]
            refine wpAnyH_take (i := 12) (oi := ⟨some 125, .move (.tmp 18), _, _, _, none⟩) (v := .int .i64 (k : Int)) rfl (by kernel_rfl) (by kernel_rfl) (by kernel_rfl) (fun _ _ _ h => h) (Or.inl ⟨by rfl, fun w' hS => ?_⟩) HSD.out ?_
            · clear hS; go_simp
            simp only [Act.put, List.setIfInBounds_toArray, List.set_cons_zero, List.set_cons_succ]
            refine wpAnyH_take (i := 13) (oi := ⟨some 126, .binOp .add 3 (.tmp 124) (.tmp 125) 3, _, _, _, none⟩) (v := .int .i64 q1) rfl (by kernel_rfl) (by kernel_rfl) (by kernel_rfl) (fun _ _ _ h => h) (Or.inl ⟨by rfl, fun w' hS => ?_⟩) HSD.out ?_
            · clear hS; go_simp; rw [IntWalk.i64_left]; exact HV4.out
            simp only [Act.put, List.setIfInBounds_toArray, List.set_cons_zero, List.set_cons_succ]
            refine wpAnyH_take (i := 14) (oi := ⟨some 127, .fieldAddr 48 (.tmp 9) 2, _, _, _, none⟩) (v := .pointer (some ⟨F, 2, none⟩)) rfl (by kernel_rfl) (by kernel_rfl) (by kernel_rfl) (fun _ _ _ h => h) (Or.inl ⟨by rfl, fun w' hS => ?_⟩) HSD.out ?_
            · clear hS; go_simp
            simp only [Act.put, List.setIfInBounds_toArray, List.set_cons_zero, List.set_cons_succ]
            refine wpAnyH_take (i := 15) (oi := ⟨some 128, .load 3 (.tmp 127), _, _, _, none⟩) (v := .int .i64 f.off) rfl (by kernel_rfl) (by kernel_rfl) (by kernel_rfl) (fun _ _ _ h => h) (Or.inl ⟨by rfl, fun w' hS => ?_⟩) HSD.out ?_
            · have s := hS.k2; clear hS; go_simp
            simp only [Act.put, List.setIfInBounds_toArray, List.set_cons_zero, List.set_cons_succ]
            refine wpAnyH_take (i := 16) (oi := ⟨some 129, .fieldAddr 48 (.tmp 9) 5, _, _, _, none⟩) (v := .pointer (some ⟨F, 5, none⟩)) rfl (by kernel_rfl) (by kernel_rfl) (by kernel_rfl) (fun _ _ _ h => h) (Or.inl ⟨by rfl, fun w' hS => ?_⟩) HSD.out ?_
            · clear hS; go_simp
            simp only [Act.put, List.setIfInBounds_toArray, List.set_cons_zero, List.set_cons_succ]
            refine wpAnyH_take (i := 17) (oi := ⟨some 130, .load 46 (.tmp 129), _, _, _, none⟩) (v := .agg #[.int .u8 (f.k0 : Int), .int .u8 (f.k1 : Int), .int .u8 (f.k2 : Int), .int .u8 (f.k3 : Int)]) rfl (by kernel_rfl) (by kernel_rfl) (by kernel_rfl) (fun _ _ _ h => h) (Or.inl ⟨by rfl, fun w' hS => ?_⟩) HSD.out ?_
            · have s0 := hS.m0; have s1 := hS.m1; have s2 := hS.m2; have s3 := hS.m3; clear hS; go_simp
            simp only [Act.put, List.setIfInBounds_toArray, List.set_cons_zero, List.set_cons_succ]
            refine wpAnyH_take (i := 18) (oi := ⟨some 131, .build 48 #[(0, .tmp 115), (1, .tmp 126), (2, .tmp 128), (5, .tmp 130)], _, _, _, none⟩) (v := .agg (faC (faAt f q1))) rfl (by kernel_rfl) (by kernel_rfl) (by kernel_rfl) (fun _ _ _ h => h) (Or.inl ⟨by rfl, fun w' hS => ?_⟩) HSD.out ?_
            · clear hS; exact exec_fa f q1 rfl rfl rfl rfl rfl
            simp only [Act.put, List.setIfInBounds_toArray, List.set_cons_zero, List.set_cons_succ]
            refine wpAnyH_ready (rs := [19]) (by kernel_rfl) (by simp) ?_
            refine AllReadyH.cons rfl (fun K hK => ?_) AllReadyH.nil
            go_simp
            refine HFC.out.mono ?_
            rintro e w5 ⟨rfl, h5, hc5⟩
            have HN5 := Lib.hid (HNEXT.out w5 h5 hc5)
            have HS5 := Lib.hid (HB2.out.gr h5.ch)
            clear h5 hc5
            dsimp only
            refine hK.out _ _ HS5.out (fun _ => ?_)
            clear hK K
            try simp only [Act.put, List.setIfInBounds_toArray, List.set_cons_zero, List.set_cons_succ]
            refine wpAnyH_done (by kernel_rfl) ?_ _
            go_wp2
            go_roundw
            case rel => exact ⟨k + 1, HLT.out.1, HLT.out.2, by go_num, Lib.hid HN5⟩
            case measure => have := HLT.out.1; simp [intOf]; omega
          by_cases e2 : hu k = 2
          · obtain ⟨M, hMe⟩ : ∃ M, M = huM hu k := ⟨_, rfl⟩
            have hM2 : M < 2 := by rw [hMe]; unfold huM; omega
            have hMi : hu k - 1 = (M : Int) := by rw [hMe]; unfold huM; omega
            obtain ⟨q1, hq1⟩ : ∃ q1 : Int, q1 = (adN n M k : Int) := ⟨_, rfl⟩
            have hmul : M * n.W ≤ 1 * 16 := Nat.mul_le_mul (by omega) (by omega)
            have hmi : (M : Int) * (n.W : Int) = ((M * n.W : Nat) : Int) := by simp
            have hqe : (4 : Int) + (M : Int) * (n.W : Int) + (k : Int) = q1 := by rw [hq1, hmi]; unfold adN; omega
            have HV5 := Lib.hid (show IntKind.i64.wrap 1 = (M : Int) by rw [hMe]; unfold huM; rw [e2]; rfl)
            have HV1 := Lib.hid (show wrap64 (hu k - 1) = (M : Int) by rw [hMi]; exact IntWalk.wrap64_in _ ⟨by omega, by omega⟩)
            have HV2 := Lib.hid (show wrap64 ((M : Int) * (n.W : Int)) = (M : Int) * (n.W : Int) from IntWalk.wrap64_in _ ⟨by rw [hmi]; omega, by rw [hmi]; omega⟩)
            have HV3 := Lib.hid (show wrap64 (4 + (M : Int) * (n.W : Int)) = 4 + (M : Int) * (n.W : Int) from IntWalk.wrap64_in _ ⟨by rw [hmi]; omega, by rw [hmi]; omega⟩)
            have HV4 := Lib.hid (show wrap64 (4 + (M : Int) * (n.W : Int) + (k : Int)) = q1 by rw [hqe]; exact IntWalk.wrap64_in _ ⟨by rw [← hqe, hmi]; omega, by rw [← hqe, hmi]; omega⟩)
            have hI : I64 q1 := by unfold I64; rw [← hqe, hmi]; omega
            obtain ⟨wd, hwd⟩ : ∃ wd, wd = wr.drew := ⟨_, rfl⟩
            have hcd : Ch (fun _ => False) wr wd := by rw [hwd]; exact (Ch.refl _ wr).drew
            have HWD := Lib.hid hwd
            have hRD := HK.out.rg.gr hcd
            have HSD := Lib.hid (HB2.out.gr hRD.ch)
            have hstep : huD n f hu s.d (k + 1) = faultD (huD n f hu s.d k) (faAt f q1) := by
              rw [hq1, hMe]
              exact if_pos (Or.inr e2)
            have hlm := hu_lim (g := n) (f := f) (q := hu) (d := s.d) (t := 22532) (by rw [HS.out]; exact HLM1.out.1) (by rw [HS.out]; exact HLM1.out.2) k
            have HFC := Lib.hid (hRD.call (d' := faultD (huD n f hu s.d k) (faAt f q1)) (r := .int .i64 (faultE (huD n f hu s.d k) (faAt f q1))) (F := 28) (args := #[.pointer (some ⟨B, 0, none⟩), .agg (faC (faAt f q1))]) fun p hp h => by
              subst hp
              exact fault_any _ p _ (faAt f q1) (22532 + k) wd h (faAt_ok HFO.out hI) hlm.1 hlm.2 (by omega))
            have HNEXT : Hid (∀ w5, RgW w2 (fun i => (Value.slice Av mm Cv).ownBlock = some i) B R (faultD (huD n f hu s.d k) (faAt f q1)) s.x w5 → Ch (fun i => w2.heap.size ≤ i ∧ ¬ (Value.slice Av mm Cv).ownBlock = some i) wd w5 → AdW w2 B R ⟨huD n f hu s.d (k + 1), s.x, s.out, s.ok⟩ (.slice Av mm Cv) w5) := Lib.hid fun w5 a1 a2 => ⟨by rw [hstep]; exact a1, (HK.out.out.ch hcd fun _ _ q => q).ch a2 fun i hi q => q.2 hi⟩
            obtain ⟨fe, hfe⟩ : ∃ fe, fe = faultE (huD n f hu s.d k) (faAt f q1) := ⟨_, rfl⟩
            rw [← hfe] at HFC
            clear hMe hMi hmul hmi hqe hI hwd hcd hRD hstep hlm hfe hq1
            go_upto_region 12 with fail
            refine wp_region_held (S := (HoldF H F n f b o (k : Int) k (hu k))) (by kernel_rfl) ?_
            change wpAnyH _ _ _ _ _ _ _ _ (World.drew _)
            rw [← HWD.out]
            refine wpAnyH_take (i := 0) (oi := ⟨some 113, .move (.tmp 13), _, _, _, none⟩) (v := .pointer (some ⟨B, 0, none⟩)) rfl (by kernel_rfl) (by kernel_rfl) (by kernel_rfl) (fun _ _ _ h => h) (Or.inl ⟨by rfl, fun w' hS => ?_⟩) HSD.out ?_
            · clear hS; go_simp
            simp only [Act.put, List.setIfInBounds_toArray, List.set_cons_zero, List.set_cons_succ]
            refine wpAnyH_take (i := 1) (oi := ⟨some 114, .fieldAddr 48 (.tmp 9) 0, _, _, _, none⟩) (v := .pointer (some ⟨F, 0, none⟩)) rfl (by kernel_rfl) (by kernel_rfl) (by kernel_rfl) (fun _ _ _ h => h) (Or.inl ⟨by rfl, fun w' hS => ?_⟩) HSD.out ?_
            · clear hS; go_simp
            simp only [Act.put, List.setIfInBounds_toArray, List.set_cons_zero, List.set_cons_succ]
            refine wpAnyH_take (i := 2) (oi := ⟨some 115, .load 3 (.tmp 114), _, _, _, none⟩) (v := .int .i64 f.kind) rfl (by kernel_rfl) (by kernel_rfl) (by kernel_rfl) (fun _ _ _ h => h) (Or.inl ⟨by rfl, fun w' hS => ?_⟩) HSD.out ?_
            · have s := hS.k0; clear hS; go_simp
            simp only [Act.put, List.setIfInBounds_toArray, List.set_cons_zero, List.set_cons_succ]
            refine wpAnyH_take (i := 3) (oi := ⟨some 116, .move (.tmp 3), _, _, _, none⟩) (v := .slice (some ⟨b, o, none⟩) nh Ch') rfl (by kernel_rfl) (by kernel_rfl) (by kernel_rfl) (fun _ _ _ h => h) (Or.inl ⟨by rfl, fun w' hS => ?_⟩) HSD.out ?_
            · clear hS; go_simp
            simp only [Act.put, List.setIfInBounds_toArray, List.set_cons_zero, List.set_cons_succ]
            refine wpAnyH_take (i := 4) (oi := ⟨some 117, .move (.tmp 18), _, _, _, none⟩) (v := .int .i64 (k : Int)) rfl (by kernel_rfl) (by kernel_rfl) (by kernel_rfl) (fun _ _ _ h => h) (Or.inl ⟨by rfl, fun w' hS => ?_⟩) HSD.out ?_
            · clear hS; go_simp
            simp only [Act.put, List.setIfInBounds_toArray, List.set_cons_zero, List.set_cons_succ]
            refine wpAnyH_take (i := 5) (oi := ⟨some 118, .indexAddr 45 (.tmp 116) (.tmp 117), _, _, _, none⟩) (v := .pointer (some ⟨b, o + k, none⟩)) rfl (by kernel_rfl) (by kernel_rfl) (by kernel_rfl) (fun _ _ _ h => h) (Or.inl ⟨by rfl, fun w' hS => ?_⟩) HSD.out ?_
            · clear hS; go_simp
            simp only [Act.put, List.setIfInBounds_toArray, List.set_cons_zero, List.set_cons_succ]
            refine wpAnyH_take (i := 6) (oi := ⟨some 119, .load 3 (.tmp 118), _, _, _, none⟩) (v := .int .i64 (hu k)) rfl (by kernel_rfl) (by kernel_rfl) (by kernel_rfl) (fun _ _ _ h => h) (Or.inl ⟨by rfl, fun w' hS => ?_⟩) HSD.out ?_
            · have s := hS.q; clear hS; go_simp
            simp only [Act.put, List.setIfInBounds_toArray, List.set_cons_zero, List.set_cons_succ]
            refine wpAnyH_take (i := 7) (oi := ⟨some 120, .binOp .sub 3 (.tmp 119) (.const (.int .i64 1)) 3, _, _, _, none⟩) (v := .int .i64 (M : Int)) rfl (by kernel_rfl) (by kernel_rfl) (by kernel_rfl) (fun _ _ _ h => h) (Or.inl ⟨by rfl, fun w' hS => ?_⟩) HSD.out ?_
            · clear hS; go_simp; exact HV5.out
            simp only [Act.put, List.setIfInBounds_toArray, List.set_cons_zero, List.set_cons_succ]
            refine wpAnyH_take (i := 8) (oi := ⟨some 121, .fieldAddr 23 (.tmp 5) 0, _, _, _, none⟩) (v := .pointer (some ⟨H, 0, none⟩)) rfl (by kernel_rfl) (by kernel_rfl) (by kernel_rfl) (fun _ _ _ h => h) (Or.inl ⟨by rfl, fun w' hS => ?_⟩) HSD.out ?_
            · clear hS; go_simp
            simp only [Act.put, List.setIfInBounds_toArray, List.set_cons_zero, List.set_cons_succ]
            refine wpAnyH_take (i := 9) (oi := ⟨some 122, .load 3 (.tmp 121), _, _, _, none⟩) (v := .int .i64 (n.W : Int)) rfl (by kernel_rfl) (by kernel_rfl) (by kernel_rfl) (fun _ _ _ h => h) (Or.inl ⟨by rfl, fun w' hS => ?_⟩) HSD.out ?_
            · have s := hS.x0; clear hS; go_simp
            simp only [Act.put, List.setIfInBounds_toArray, List.set_cons_zero, List.set_cons_succ]
            refine wpAnyH_take (i := 10) (oi := ⟨some 123, .binOp .mul 3 (.tmp 120) (.tmp 122) 3, _, _, _, none⟩) (v := .int .i64 (M * n.W : Int)) rfl (by kernel_rfl) (by kernel_rfl) (by kernel_rfl) (fun _ _ _ h => h) (Or.inl ⟨by rfl, fun w' hS => ?_⟩) HSD.out ?_
            · clear hS; go_simp; rw [IntWalk.i64_left]; exact HV2.out
            simp only [Act.put, List.setIfInBounds_toArray, List.set_cons_zero, List.set_cons_succ]
            refine wpAnyH_take (i := 11) (oi := ⟨some 124, .binOp .add 3 (.const (.int .i64 4)) (.tmp 123) 3, _, _, _, none⟩) (v := .int .i64 (4 + M * n.W : Int)) rfl (by kernel_rfl) (by kernel_rfl) (by kernel_rfl) (fun _ _ _ h => h) (Or.inl ⟨by rfl, fun w' hS => ?_⟩) HSD.out ?_
            · clear hS; go_simp; rw [IntWalk.i64_left]; exact HV3.out
            simp only [Act.put, List.setIfInBounds_toArray, List.set_cons_zero, List.set_cons_succ]
            refine wpAnyH_take (i := 12) (oi := ⟨some 125, .move (.tmp 18), _, _, _, none⟩) (v := .int .i64 (k : Int)) rfl (by kernel_rfl) (by kernel_rfl) (by kernel_rfl) (fun _ _ _ h => h) (Or.inl ⟨by rfl, fun w' hS => ?_⟩) HSD.out ?_
            · clear hS; go_simp
            simp only [Act.put, List.setIfInBounds_toArray, List.set_cons_zero, List.set_cons_succ]
            refine wpAnyH_take (i := 13) (oi := ⟨some 126, .binOp .add 3 (.tmp 124) (.tmp 125) 3, _, _, _, none⟩) (v := .int .i64 q1) rfl (by kernel_rfl) (by kernel_rfl) (by kernel_rfl) (fun _ _ _ h => h) (Or.inl ⟨by rfl, fun w' hS => ?_⟩) HSD.out ?_
            · clear hS; go_simp; rw [IntWalk.i64_left]; exact HV4.out
            simp only [Act.put, List.setIfInBounds_toArray, List.set_cons_zero, List.set_cons_succ]
            refine wpAnyH_take (i := 14) (oi := ⟨some 127, .fieldAddr 48 (.tmp 9) 2, _, _, _, none⟩) (v := .pointer (some ⟨F, 2, none⟩)) rfl (by kernel_rfl) (by kernel_rfl) (by kernel_rfl) (fun _ _ _ h => h) (Or.inl ⟨by rfl, fun w' hS => ?_⟩) HSD.out ?_
            · clear hS; go_simp
            simp only [Act.put, List.setIfInBounds_toArray, List.set_cons_zero, List.set_cons_succ]
            refine wpAnyH_take (i := 15) (oi := ⟨some 128, .load 3 (.tmp 127), _, _, _, none⟩) (v := .int .i64 f.off) rfl (by kernel_rfl) (by kernel_rfl) (by kernel_rfl) (fun _ _ _ h => h) (Or.inl ⟨by rfl, fun w' hS => ?_⟩) HSD.out ?_
            · have s := hS.k2; clear hS; go_simp
            simp only [Act.put, List.setIfInBounds_toArray, List.set_cons_zero, List.set_cons_succ]
            refine wpAnyH_take (i := 16) (oi := ⟨some 129, .fieldAddr 48 (.tmp 9) 5, _, _, _, none⟩) (v := .pointer (some ⟨F, 5, none⟩)) rfl (by kernel_rfl) (by kernel_rfl) (by kernel_rfl) (fun _ _ _ h => h) (Or.inl ⟨by rfl, fun w' hS => ?_⟩) HSD.out ?_
            · clear hS; go_simp
            simp only [Act.put, List.setIfInBounds_toArray, List.set_cons_zero, List.set_cons_succ]
            refine wpAnyH_take (i := 17) (oi := ⟨some 130, .load 46 (.tmp 129), _, _, _, none⟩) (v := .agg #[.int .u8 (f.k0 : Int), .int .u8 (f.k1 : Int), .int .u8 (f.k2 : Int), .int .u8 (f.k3 : Int)]) rfl (by kernel_rfl) (by kernel_rfl) (by kernel_rfl) (fun _ _ _ h => h) (Or.inl ⟨by rfl, fun w' hS => ?_⟩) HSD.out ?_
            · have s0 := hS.m0; have s1 := hS.m1; have s2 := hS.m2; have s3 := hS.m3; clear hS; go_simp
            simp only [Act.put, List.setIfInBounds_toArray, List.set_cons_zero, List.set_cons_succ]
            refine wpAnyH_take (i := 18) (oi := ⟨some 131, .build 48 #[(0, .tmp 115), (1, .tmp 126), (2, .tmp 128), (5, .tmp 130)], _, _, _, none⟩) (v := .agg (faC (faAt f q1))) rfl (by kernel_rfl) (by kernel_rfl) (by kernel_rfl) (fun _ _ _ h => h) (Or.inl ⟨by rfl, fun w' hS => ?_⟩) HSD.out ?_
            · clear hS; exact exec_fa f q1 rfl rfl rfl rfl rfl
            simp only [Act.put, List.setIfInBounds_toArray, List.set_cons_zero, List.set_cons_succ]
            refine wpAnyH_ready (rs := [19]) (by kernel_rfl) (by simp) ?_
            refine AllReadyH.cons rfl (fun K hK => ?_) AllReadyH.nil
            go_simp
            refine HFC.out.mono ?_
            rintro e w5 ⟨rfl, h5, hc5⟩
            have HN5 := Lib.hid (HNEXT.out w5 h5 hc5)
            have HS5 := Lib.hid (HB2.out.gr h5.ch)
            clear h5 hc5
            dsimp only
            refine hK.out _ _ HS5.out (fun _ => ?_)
            clear hK K
            try simp only [Act.put, List.setIfInBounds_toArray, List.set_cons_zero, List.set_cons_succ]
            refine wpAnyH_done (by kernel_rfl) ?_ _
            go_wp2
            go_roundw
            case rel => exact ⟨k + 1, HLT.out.1, HLT.out.2, by go_num, Lib.hid HN5⟩
            case measure => have := HLT.out.1; simp [intOf]; omega
          have HN : Hid (AdW w2 B R ⟨huD n f hu s.d (k + 1), s.x, s.out, s.ok⟩ (.slice Av mm Cv) wr) := Lib.hid (by
            rw [show huD n f hu s.d (k + 1) = huD n f hu s.d k from if_neg (fun q => q.elim e1 e2)]
            exact HK.out)
          have hb1 : (hu k == 1) = false := beq_eq_false_iff_ne.2 e1
          have hb2 : (hu k == 2) = false := beq_eq_false_iff_ne.2 e2
          go_wp2
          all_goals first | (exfalso; rename_i hq; rcases hq with hq | hq <;> first | exact e1 (eq_of_beq hq) | exact e2 (eq_of_beq hq)) | skip
          go_roundw
          case rel => exact ⟨k + 1, HLT.out.1, HLT.out.2, by go_num, Lib.hid HN⟩
          case measure => have := HLT.out.1; simp [intOf]; omega
        · obtain rfl : k = n.W := by omega
          have i3 : ¬ (n.W : Int) < (n.W : Int) := by omega
          go_wp2_with fail
          go_meet
          exact ⟨n.W, Or.inr rfl, Nat.le_refl _, rfl, HK⟩
      · obtain rfl : k = nh := by omega
        go_wp2_with fail
        go_meet
        exact ⟨k, Or.inl rfl, hk2, rfl, HK⟩
  case rest =>
    obtain ⟨k, hk1, hk2, rfl, HK⟩ := hcut
    clear HIV
    obtain ⟨d8, hd8⟩ : ∃ d8, d8 = huD n f hu s.d k := ⟨_, rfl⟩
    have h8 : AdW w2 B R ⟨d8, s.x, s.out, s.ok⟩ (.slice Av mm Cv) wc := by rw [hd8]; exact HK.out
    have H8 := Lib.hid h8
    have hlm := hu_lim (g := n) (f := f) (q := hu) (d := s.d) (t := 22532) (by rw [HS.out]; exact HLM1.out.1) (by rw [HS.out]; exact HLM1.out.2) k
    have hlog : LogS (· = Ct.free) 7 n st 9 s.d s.x Cc T.flatten := by rw [HS.out]; exact HBO.out.log
    have hall := hu_all (q := hu) (secs_le n) (show Fine (secsG n) s.d by rw [HS.out]; exact HBO.out.fine) hlog.dev HFO.out HKD.out (log_good hlog) k hk2
    rw [← hd8] at hlm hall
    have HLM8 := Lib.hid (show Lim d8 22600 from hlm.1.mono (by have := HW7.out.2; have := HW16.out; omega))
    have HALL := Lib.hid hall
    have HLOG := Lib.hid hlog
    have HLD := Lib.hid (h8.rg.load HNK.out (t := 22600) HLM8.out (by omega))
    obtain ⟨x0, x1, x2, x3⟩ := HR.out.x.gr ((HF.out.ch.trans HC2b.out).trans h8.rg.ch)
    clear hd8 h8 hlm hlog hall hk1 hk2 HK
    go_wp2_with fail
    refine HLD.out.mono ?_
    rintro e w10 ⟨B0, B1, rfl, ha0, ha1, h10, hc10⟩
    have hmi : MiIs w10 (miOf 7 n d8 (some ⟨B0, 0, none⟩) (some ⟨B1, 0, none⟩) n.W n.W) := mi_is HNK.out ⟨by omega, by omega⟩ ha0 ha1
    have hlm := logM_of HALL.out.1.qt HNK.out (secs_le n) (show 0 ≤ (7 : Int) ∧ (7 : Int) ≤ 4294967295 by omega) HALL.out.2 (some ⟨B0, 0, none⟩) (some ⟨B1, 0, none⟩) n.W n.W
    obtain ⟨mr, hmr⟩ : ∃ mr, mr = miOf 7 n d8 (some ⟨B0, 0, none⟩) (some ⟨B1, 0, none⟩) n.W n.W := ⟨_, rfl⟩
    rw [← hmr] at hmi hlm
    have hmA0 : mr.A 0 = some ⟨B0, 0, none⟩ := by rw [hmr]; rfl
    have hmA1 : mr.A 1 = some ⟨B1, 0, none⟩ := by rw [hmr]; rfl
    have hmC0 : mr.C 0 = n.W := by rw [hmr]; rfl
    have hmC1 : mr.C 1 = n.W := by rw [hmr]; rfl
    have hmv : mr.vol = 7 := by rw [hmr]; rfl
    have hmg : mr.g = n := by rw [hmr]; rfl
    have hF9 := rfollow_yes mr st 9 w10 hmi (by have := HS0.out; omega) ⟨by omega, by omega⟩
    have htl := told_left HLOG.out HNK.out HBO.out.good (hu_hurt (q := hu) (n := k)).1 (hu_hurt (W := n.W) (q := hu) (n := k)).2 hlm hmv hmg
    rw [hmA0, hmA1, hmC0, hmC1, hmv, hmg] at hF9
    have HF9 := Lib.hid hF9
    have HTL := Lib.hid htl
    have H10 := Lib.hid h10
    have HO10 : Hid (OutW w2 w10 (.slice Av mm Cv) s.out) := Lib.hid (H8.out.out.ch hc10 fun i hi q => q.2 hi)
    obtain ⟨y0, y1, y2, y3⟩ := HR.out.x.gr ((HF.out.ch.trans HC2b.out).trans h10.ch)
    clear hmr hmA0 hmA1 hmC0 hmC1 hmv hmg hF9 htl hmi hlm ha0 ha1 h10 hc10 x0 x1 x2 x3 HLD
    go_wp2_with fail
    refine HF9.out.mono ?_
    rintro e w11 hfol
    obtain ⟨V, rfl, hV, hc11⟩ := fol_ok hfol HTL.out.1 HTL.out.2 rfl
    obtain ⟨A2, C2, Ms, rfl, hM, hRO⟩ := hV
    have hM' : Ms.map Bv.B = T.map joinP := hM
    have hML : Ms.length = mm := by rw [← List.length_map (f := Bv.B), hM', HBO.out.out, HMM.out, HS.out]
    obtain ⟨tv, htv⟩ : ∃ tv, tv = Value.slice A2 mm C2 := ⟨_, rfl⟩
    rw [hML, ← htv]
    obtain ⟨ep, hep⟩ : ∃ ep, ep = epR T.flatten := ⟨_, rfl⟩
    rw [← hep]
    obtain ⟨nx, hnx⟩ : ∃ nx, nx = s.x.next := ⟨_, rfl⟩
    obtain ⟨cc, hcc⟩ : ∃ cc, cc = s.x.chain := ⟨_, rfl⟩
    rw [← hnx, ← hcc]
    obtain ⟨wz, wx, G, hVT⟩ := varTl ⟨T.map joinP, nx, cc⟩ ep (v := tv) ⟨_, _, _, htv⟩ w11
    have t0 : wx.cell? ⟨G, 0, none⟩ = some tv := blk_cell hVT.cx
    have t1 : wx.cell? ⟨G, 1, none⟩ = some (.int .i64 nx) := blk_cell hVT.cx
    have t2 : wx.cell? ⟨G, 2, none⟩ = some (.int .i64 cc) := blk_cell hVT.cx
    have hrg := (H10.out.gr hc11).gr hVT.ch
    have HNX := Lib.hid (fun n => rnext_same R s.x (wx.drewN n) (hrg.rg.gr ((Ch.refl _ wx).drewN n)))
    have HCH := Lib.hid (fun n => rchain_same R s.x (wx.drewN n) (hrg.rg.gr ((Ch.refl _ wx).drewN n)))
    rw [← hnx] at HNX
    rw [← hcc] at HCH
    have HCE := Lib.hid (HC2.out.trans hrg.ch)
    have HVT := Lib.hid hVT
    have HRO := Lib.hid hRO
    have HMR := Lib.hid hM'
    have HML := Lib.hid hML
    have HOX := Lib.hid ((HO10.out.ch hc11 (fun _ _ f => f)).ch hVT.ch (fun _ _ f => f))
    have H10X := Lib.hid (show Ch (fun _ => False) w2 wx from hrg.ch)
    rw [htv] at t0 ⊢
    rw [htv] at HVT
    clear hfol hM hM' hML hep hRO hVT hrg hc11 htv y0 y1 y2 y3 HF9 HTL hnx hcc
    have HM12' : Hid (mm ≤ 12) := Lib.hid (by
      have := ad_out ⟨bkD 7 (secsG n), boX B n 7 3 st 9, [], true⟩ (rowsL N Z m)
      rw [rowsL_len] at this
      rw [HMM.out, HS.out]
      have h12 := HM12.out
      exact Nat.le_trans this (by show 0 + m ≤ 12; omega))
    have hmm0 : (0 : Int) ≤ (mm : Int) := Int.natCast_nonneg _
    have hmm12 : (mm : Int) ≤ 12 := by have := HM12'.out; omega
    go_wp2_with (first
      | ((with_reducible refine wpList_isOp (.alloc 40) rfl ?_); refine wpList_making _ wz rfl 40 rfl (tlC tl0 0 (.slice none 0 0)) G (zero_tl _) (by exact HVT.out.sz) (by exact HVT.out.al) ?_)
      | ((with_reducible refine wpList_isOp (.store 40 (.tmp 21) (.tmp 145)) rfl ?_); refine wpList_storing _ wx rfl 40 (.tmp 21) (.tmp 145) rfl (.agg (tlC ⟨T.map joinP, nx, cc⟩ ep (.slice A2 mm C2))) ⟨G, 0, none⟩ rfl rfl (by exact HVT.out.st) ?_)
      | fail)
    go_quiet (first
      | (go_at_call 30; exact quR (HNX.out _))
      | (go_at_call 31; exact quR (HCH.out _)))
    go_wp2_with fail
    go_loopw [23, 24, 179, 180, 181, 182, 183, 184, 185, 186, 187, 188, 189, 190, 191, 192, 193, 194, 195, 196] (fun i _ _ _ _ _ _ _ _ _ _ _ _ _ _ _ _ _ _ _ wr => ∃ k j : Nat, k ≤ mm ∧ i = .int .i64 k ∧ wr = wx.drewN j) (fun i _ _ _ _ _ _ _ _ _ _ _ _ _ _ _ _ _ _ _ _ => mm - (intOf i).toNat)
    case atStart => exact ⟨0, _, Nat.zero_le _, rfl, rfl⟩
    case round =>
      obtain ⟨k, j, hk, rfl, hwr⟩ := hrel
      have hcj : Ch (fun _ => False) wx wr := by rw [hwr]; exact (Ch.refl _ wx).drewN j
      have t0' := hcj.cell t0 (fun f => f)
      have HCJ := Lib.hid hcj
      have HWR := Lib.hid hwr
      clear hwr hcj
      by_cases hlt : k < mm
      · have i1 : (0 : Int) ≤ (k : Int) := Int.natCast_nonneg _
        have i2 : (k : Int) < (mm : Int) := by omega
        have hol : s.out.length = mm := HMM.out.symm
        obtain ⟨b, o, hAv, hcs⟩ := HOX.out.read hol.symm (by omega)
        subst hAv
        have hRO := HRO.out
        have hrd := hRO.read (by rw [HML.out]; have := HM12'.out; omega)
        obtain ⟨b2, o2, hA2, hcs2⟩ := hrd.at' (by rw [HML.out]; omega)
        subst hA2
        have hms : Ms[k]? = some (Ms[k]'(by rw [HML.out]; exact hlt)) := List.getElem?_eq_getElem _
        obtain ⟨mk, hmk⟩ : ∃ mk, mk = Ms[k]'(by rw [HML.out]; exact hlt) := ⟨_, rfl⟩
        rw [← hmk] at hms
        have hbt : s.out[k]? = some mk.B := by
          have e := HMR.out
          rw [HBO.out.out, ← HS.out] at e
          rw [← e, List.getElem?_map, hms]
          rfl
        obtain ⟨A', C', c1, hr1⟩ := hcs k mk.B hbt
        have c2 := hcs2 k mk hms 0 mk.V rfl
        obtain ⟨hv, _⟩ := hrd.rows mk (List.mem_of_getElem? hms)
        obtain ⟨A3, C3, e3, _⟩ := id hv
        rw [show elB.V mk = mk.V from rfl] at e3 hv
        rw [e3] at c2 hv
        rw [show elB.B mk = mk.B from rfl] at c2 hv
        have c2 : w11.cell? ⟨b2, o2 + k, none⟩ = some (.slice A3 mk.B.length C3) := by
          have q : (w11.cell? ⟨b2, o2 + k * 1 + 0, none⟩ = some (.slice A3 mk.B.length C3)) := c2
          rwa [Nat.mul_one, Nat.add_zero] at q
        have c2 := HCJ.out.cell (HVT.out.ch.cell c2 (fun f => f)) (fun f => f)
        have c1 := HCJ.out.cell c1 (fun f => f)
        obtain ⟨nb, hnb⟩ : ∃ nb, nb = mk.B.length := ⟨_, rfl⟩
        rw [← hnb] at c1 c2
        have HSA := Lib.hid (fun i => same_any A3 A' nb nb C3 C' (Cod.litZ mk.B) (Cod.litZ mk.B) (wr.drewN i) (by rw [hnb]; exact ((hv.gr HVT.out.ch).gr HCJ.out).drewN i) (by rw [hnb]; exact ((hr1.gr H10X.out).gr HCJ.out).drewN i))
        rw [eqB_yes rfl (fun _ _ => rfl)] at HSA
        clear hcs hRO hrd hcs2 hms hbt hr1 hv e3 hmk hnb hol
        go_wp2_with fail
        go_quiet (first
          | (go_at_call 14; exact Qu.at (HSA.out _)))
        go_wp2_with fail
        go_roundw
        case rel => exact ⟨k + 1, j + nq, by omega, by go_num, by rw [HWR.out, World.drewN_drewN]⟩
        case measure => simp [intOf]; omega
      · obtain rfl : k = mm := by omega
        go_wp2
        go_ret
        exact ⟨rfl, HCE.out.trans HCJ.out⟩
end Go.Proofs.YteleknojohnlbaaGreat
