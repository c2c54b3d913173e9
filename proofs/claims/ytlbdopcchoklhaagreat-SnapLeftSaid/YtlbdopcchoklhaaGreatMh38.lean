/-
  The program's snap: told and Stripe, walked.
-/
import Derived.Test.YtlbdopcchoklhaaGreatMh33
namespace Go.Proofs.YtlbdopcchoklhaaGreat
open Go.RowKit
set_option linter.unusedVariables false
set_option maxRecDepth 100000
set_option linter.unusedSimpArgs false

/-- The body of a sector that is good; nothing, else. -/
def TldPost (vol no ad : Int) (l : Nat) (z : Nat → Nat) (w : World) (e : Ending) (w' : World) : Prop :=
  ∃ v, e = .returned v ∧ RowV w' v (if shrB vol no ad l z then 228 else 0) (fun c => z (24 + c) % 256) ∧ Ch (fun _ => False) w w'
set_option maxHeartbeats 6400000 in
theorem stold_any (A : Option Addr) (l C : Nat) (z : Nat → Nat) (vol ad no : Int) (w : World) (h : RowV w (.slice A l C) l z) : Calls Tryz.prog 42 #[.slice A l C, .int .i64 vol, .int .i64 ad, .int .i64 no] w (TldPost vol no ad l z w) := by
  have HOP := Lib.hid (bopen_any A l C z w h)
  clear h
  go_enter Tryz.func42, Tryz.ntmps42
  go_wp2_with fail
  refine HOP.out.mono ?_
  rintro e w3 ⟨V, rfl, hb, hc3⟩
  obtain ⟨bk, hbk⟩ : ∃ bk, bk = openB l z V := ⟨_, rfl⟩
  rw [← hbk] at hb
  rw [← hbk]
  have hso := shr_open (vol := vol) (no := no) (ad := ad) hbk
  obtain ⟨er, her⟩ : ∃ er, er = openQ l z := ⟨_, rfl⟩
  rw [← her] at hso
  rw [← her]
  obtain ⟨Ab, Cb, hbV, _⟩ := id hb.row
  obtain ⟨wz, wx, G, hVB⟩ := varBk (b := bk) ⟨_, _, _, hbV⟩ w3
  have d0 : wx.cell? ⟨G, 0, none⟩ = some (.int .i64 bk.kind) := blk_cell hVB.cx
  have d1 : wx.cell? ⟨G, 1, none⟩ = some (.int .i64 bk.vol) := blk_cell hVB.cx
  have d2 : wx.cell? ⟨G, 2, none⟩ = some (.int .i64 bk.addr) := blk_cell hVB.cx
  have d4 : wx.cell? ⟨G, 4, none⟩ = some (.int .i64 bk.seq) := blk_cell hVB.cx
  have d5 : wx.cell? ⟨G, 5, none⟩ = some (.slice Ab bk.len Cb) := by rw [← hbV]; exact blk_cell hVB.cx
  have HC3 := Lib.hid (hc3.trans hVB.ch)
  have HB3 := Lib.hid (hb.row.gr hVB.ch)
  rw [hbV] at HB3
  have HVB := Lib.hid hVB
  have HSO := Lib.hid hso
  clear hbk hb hc3 her hbV hVB hso HOP
  rcases HSO.out with ⟨hne, hno⟩ | ⟨he0, hzz, hyes⟩
  · have HFIN : Hid (TldPost vol no ad l z w (.returned (.slice none 0 0)) wx) := Lib.hid ⟨_, rfl, by rw [hno]; exact nil_row _ _, HC3.out⟩
    have t1 : (er == 0) = false := by simpa using hne
    clear hno HSO
    go_wp2_with (first
    | ((with_reducible refine wpList_isOp (.alloc 71) rfl ?_); refine wpList_making _ wz rfl 71 rfl (bkC bk0) G (zero_bk _) (by exact HVB.out.sz) (by exact HVB.out.al) ?_)
    | ((with_reducible refine wpList_isOp (.store 71 (.tmp 9) (.tmp 15)) rfl ?_); refine wpList_storing _ wx rfl 71 (.tmp 9) (.tmp 15) rfl (.agg (bkC bk)) ⟨G, 0, none⟩ rfl rfl (by exact HVB.out.st) ?_)
    | fail)
    go_ret
    exact HFIN.out
  have HYES := Lib.hid hyes
  have HZZ := Lib.hid hzz
  subst he0
  clear hyes hzz HSO
  by_cases k1 : bk.kind = 4
  case neg =>
    have HF5 := Lib.hid (show fiveB vol no ad bk = false by unfold fiveB; rw [decide_eq_false k1]; rfl)
    have HFIN : Hid (TldPost vol no ad l z w (.returned (.slice none 0 0)) wx) := Lib.hid ⟨_, rfl, by rw [HYES.out, HF5.out]; exact nil_row _ _, HC3.out⟩
    go_wp2_with (first
    | ((with_reducible refine wpList_isOp (.alloc 71) rfl ?_); refine wpList_making _ wz rfl 71 rfl (bkC bk0) G (zero_bk _) (by exact HVB.out.sz) (by exact HVB.out.al) ?_)
    | ((with_reducible refine wpList_isOp (.store 71 (.tmp 9) (.tmp 15)) rfl ?_); refine wpList_storing _ wx rfl 71 (.tmp 9) (.tmp 15) rfl (.agg (bkC bk)) ⟨G, 0, none⟩ rfl rfl (by exact HVB.out.st) ?_)
    | fail)
    go_ret
    exact HFIN.out
  by_cases k2 : bk.vol = vol
  case neg =>
    have HF5 := Lib.hid (show fiveB vol no ad bk = false by unfold fiveB; rw [decide_eq_true k1]; rw [decide_eq_false k2]; rfl)
    have HFIN : Hid (TldPost vol no ad l z w (.returned (.slice none 0 0)) wx) := Lib.hid ⟨_, rfl, by rw [HYES.out, HF5.out]; exact nil_row _ _, HC3.out⟩
    go_wp2_with (first
    | ((with_reducible refine wpList_isOp (.alloc 71) rfl ?_); refine wpList_making _ wz rfl 71 rfl (bkC bk0) G (zero_bk _) (by exact HVB.out.sz) (by exact HVB.out.al) ?_)
    | ((with_reducible refine wpList_isOp (.store 71 (.tmp 9) (.tmp 15)) rfl ?_); refine wpList_storing _ wx rfl 71 (.tmp 9) (.tmp 15) rfl (.agg (bkC bk)) ⟨G, 0, none⟩ rfl rfl (by exact HVB.out.st) ?_)
    | fail)
    go_ret
    exact HFIN.out
  by_cases k3 : bk.addr = ad
  case neg =>
    have HF5 := Lib.hid (show fiveB vol no ad bk = false by unfold fiveB; rw [decide_eq_true k1]; rw [decide_eq_true k2]; rw [decide_eq_false k3]; rfl)
    have HFIN : Hid (TldPost vol no ad l z w (.returned (.slice none 0 0)) wx) := Lib.hid ⟨_, rfl, by rw [HYES.out, HF5.out]; exact nil_row _ _, HC3.out⟩
    go_wp2_with (first
    | ((with_reducible refine wpList_isOp (.alloc 71) rfl ?_); refine wpList_making _ wz rfl 71 rfl (bkC bk0) G (zero_bk _) (by exact HVB.out.sz) (by exact HVB.out.al) ?_)
    | ((with_reducible refine wpList_isOp (.store 71 (.tmp 9) (.tmp 15)) rfl ?_); refine wpList_storing _ wx rfl 71 (.tmp 9) (.tmp 15) rfl (.agg (bkC bk)) ⟨G, 0, none⟩ rfl rfl (by exact HVB.out.st) ?_)
    | fail)
    go_ret
    exact HFIN.out
  by_cases k4 : bk.seq = no
  case neg =>
    have HF5 := Lib.hid (show fiveB vol no ad bk = false by unfold fiveB; rw [decide_eq_true k1]; rw [decide_eq_true k2]; rw [decide_eq_true k3]; rw [decide_eq_false k4]; rfl)
    have HFIN : Hid (TldPost vol no ad l z w (.returned (.slice none 0 0)) wx) := Lib.hid ⟨_, rfl, by rw [HYES.out, HF5.out]; exact nil_row _ _, HC3.out⟩
    go_wp2_with (first
    | ((with_reducible refine wpList_isOp (.alloc 71) rfl ?_); refine wpList_making _ wz rfl 71 rfl (bkC bk0) G (zero_bk _) (by exact HVB.out.sz) (by exact HVB.out.al) ?_)
    | ((with_reducible refine wpList_isOp (.store 71 (.tmp 9) (.tmp 15)) rfl ?_); refine wpList_storing _ wx rfl 71 (.tmp 9) (.tmp 15) rfl (.agg (bkC bk)) ⟨G, 0, none⟩ rfl rfl (by exact HVB.out.st) ?_)
    | fail)
    go_ret
    exact HFIN.out
  by_cases k5 : bk.len = 228
  case neg =>
    have t5 : ((bk.len : Int) == 228) = false := beq_eq_false_iff_ne.2 (by omega)
    have HF5 := Lib.hid (show fiveB vol no ad bk = false by unfold fiveB; rw [decide_eq_true k1]; rw [decide_eq_true k2]; rw [decide_eq_true k3]; rw [decide_eq_true k4]; rw [decide_eq_false k5]; rfl)
    have HFIN : Hid (TldPost vol no ad l z w (.returned (.slice none 0 0)) wx) := Lib.hid ⟨_, rfl, by rw [HYES.out, HF5.out]; exact nil_row _ _, HC3.out⟩
    go_wp2_with (first
    | ((with_reducible refine wpList_isOp (.alloc 71) rfl ?_); refine wpList_making _ wz rfl 71 rfl (bkC bk0) G (zero_bk _) (by exact HVB.out.sz) (by exact HVB.out.al) ?_)
    | ((with_reducible refine wpList_isOp (.store 71 (.tmp 9) (.tmp 15)) rfl ?_); refine wpList_storing _ wx rfl 71 (.tmp 9) (.tmp 15) rfl (.agg (bkC bk)) ⟨G, 0, none⟩ rfl rfl (by exact HVB.out.st) ?_)
    | fail)
    go_ret
    exact HFIN.out
  have HF5 := Lib.hid (show fiveB vol no ad bk = true by unfold fiveB; rw [decide_eq_true k1, decide_eq_true k2, decide_eq_true k3, decide_eq_true k4, decide_eq_true k5]; rfl)
  rw [k5] at d5 HB3
  have HFIN : Hid (TldPost vol no ad l z w (.returned (.slice Ab 228 Cb)) wx) := Lib.hid ⟨_, rfl, by
    rw [HYES.out, HF5.out]
    refine HB3.out.congr fun c hc => ?_
    have hby := HB3.out.bytes c hc
    rw [HZZ.out] at hby ⊢
    exact (Nat.mod_eq_of_lt hby).symm, HC3.out⟩
  go_wp2_with (first
    | ((with_reducible refine wpList_isOp (.alloc 71) rfl ?_); refine wpList_making _ wz rfl 71 rfl (bkC bk0) G (zero_bk _) (by exact HVB.out.sz) (by exact HVB.out.al) ?_)
    | ((with_reducible refine wpList_isOp (.store 71 (.tmp 9) (.tmp 15)) rfl ?_); refine wpList_storing _ wx rfl 71 (.tmp 9) (.tmp 15) rfl (.agg (bkC bk)) ⟨G, 0, none⟩ rfl rfl (by exact HVB.out.st) ?_)
    | fail)
  go_ret
  exact HFIN.out
/-! ### Stripe -/
theorem sum_km {n : Gn} (hn : n.Ok) : wrap64 (n.ge.k + n.ge.m) = (n.q : Int) := by
  have k2 := hn.k2
  have m2 := hn.m2
  show wrap64 ((n.K : Int) + (n.M : Int)) = (n.q : Int)
  rw [IntWalk.wrap64_in _ ⟨by omega, by omega⟩]
  unfold Gn.q
  omega
/-- What Stripe answers. -/
def SStp (q k : Nat) (L : Nat → Nat) (X : Nat → Nat → Nat) (w : World) (e : Ending) (w' : World) : Prop :=
  (k ≤ (idx L q).length ∧ ∃ D, DataOf L q k 228 X D ∧ MatPost q 228 (sharesZ k D) w e w') ∨ ((idx L q).length < k ∧ ErrPost 22 w e w')
set_option maxHeartbeats 12800000 in
theorem sstripe_yes (A : Option Addr) (C : Nat) (vol no : Int) (n : Gn) (a s : Nat) (L : Nat → Nat) (Z : Nat → Nat → Nat) (w : World) (hn : n.Ok) (ha : a ≤ 1) (hs : s < n.S) (hv : 0 ≤ vol ∧ vol ≤ 4294967295) (hno : 0 ≤ no ∧ no ≤ 4294967295) (hl : MatV w (.slice A n.q C) n.q L Z) :
    Calls Tryz.prog 16 #[.slice A n.q C, .int .i64 vol, .agg (geC n.ge), .int .i64 (a : Int), .int .i64 (s : Int), .int .i64 no] w (SStp n.q n.K (lftL vol no (frsN n a s) L Z) (lftX Z) w) := by
  obtain ⟨w1, H, hR⟩ := geR w n.ge
  have HR := Lib.hid hR
  have HX := Lib.hid hR.x
  obtain ⟨x0, x1, x2, x3⟩ := hR.x
  have HF := Lib.hid (fun w => sfirst_yes n a s w hn ha hs)
  have HM := Lib.hid (snmay_any vol n.ge (a : Int) (s : Int) 0 no w1)
  rw [show smayB vol n.ge (a : Int) (s : Int) 0 no = true by unfold smayB; rw [frsB_yes hn ha hs, wordB_iff.2 hv, wordB_iff.2 hno]; rfl] at HM
  obtain ⟨q, hq⟩ : ∃ q, q = n.q := ⟨_, rfl⟩
  obtain ⟨at0, hat⟩ : ∃ at0, at0 = frsN n a s := ⟨_, rfl⟩
  obtain ⟨Lf, hLf⟩ : ∃ Lf, Lf = lftL vol no at0 L Z := ⟨_, rfl⟩
  have hq1 := hn.q1
  have hq2 := hn.q2
  have hfl := frsN_lt hn ha hs (i := 0) (by omega)
  have htt := hn.tot2
  rw [← hat, ← hLf, ← hq]
  rw [← hat] at HF hfl
  rw [← hq] at hq1 hq2 hl
  have HK : Hid (1 ≤ n.K ∧ n.K ≤ q) := Lib.hid ⟨hn.k1, by rw [hq]; unfold Gn.q; omega⟩
  have hq3 : (q : Int) ≤ 24 := by omega
  have hq0 : (0 : Int) ≤ (q : Int) := Int.natCast_nonneg _
  have ha0 : (0 : Int) ≤ (at0 : Int) := Int.natCast_nonneg _
  have ha1 : (at0 : Int) ≤ 2564 := by omega
  have hq4 : (q : Int) ≤ 140737488351232 := by omega
  have hq5 : q ≤ 140737488351232 := by omega
  have hmk := run_make_row' (P := Tryz.prog) 37 24 (.slice none 0 0) 24 Tryz.underlying37 Tryz.info24 rfl .i64 .i64 q (by omega) (by omega)
  have hsum : wrap64 (n.ge.k + n.ge.m) = (q : Int) := by rw [hq]; exact sum_km hn
  have HLf := Lib.hid hLf
  have HLG : Hid (0 < (idx Lf q).length → longZ Lf q = 228) := Lib.hid (by rw [hLf]; exact fun h => lft_long h)
  have HFT : Hid (Fits Lf q) := Lib.hid (by rw [hLf]; exact lft_fits q)
  have HL := Lib.hid hl
  have HSM := Lib.hid hsum
  have HMK := Lib.hid hmk
  have q6 : ¬ ¬ (q : Int) = wrap64 (n.ge.k + n.ge.m) := by rw [hsum]; exact fun h => h rfl
  have HQ6 := Lib.hid (show (q : Int) = wrap64 (n.ge.k + n.ge.m) from hsum.symm)
  clear hR hn ha hs hv hno hl hq hat hLf hfl htt hq1 hq2 hsum hmk q6
  go_enter Tryz.func16, Tryz.ntmps16
  go_wp2_with (first | ((with_reducible refine wpList_isOp (.box 23 (.tmp 2)) rfl ?_); refine wpList_boxing _ w1 rfl 23 (.tmp 2) rfl (geC n.ge) H rfl (by exact HR.out.sz) (by exact HR.out.al) ?_) | fail)
  refine HM.out.mono ?_
  rintro e w2 ⟨rfl, hc2⟩
  have HC := Lib.hid (HR.out.ch.trans hc2)
  clear x0 x1 x2 x3
  obtain ⟨x0, x1, x2, x3⟩ := HX.out.gr hc2
  have HX2 := Lib.hid (HX.out.gr hc2)
  clear hc2
  have q6 := HQ6.out
  go_wp2_with fail
  refine (HF.out _).mono ?_
  rintro e w3 ⟨rfl, hc3⟩
  have HC3 := Lib.hid (HC.out.trans hc3)
  clear x0 x1 x2 x3 q6
  obtain ⟨x0, x1, x2, x3⟩ := HX2.out.gr hc3
  have HX3 := Lib.hid (HX2.out.gr hc3)
  have HG0 := Lib.hid (GotV.start w3 q Lf (lftX Z))
  obtain ⟨g, hg⟩ : ∃ g, g = w3.heap.size := ⟨_, rfl⟩
  obtain ⟨w4, hw4⟩ : ∃ w4, w4 = w3.alloc (.cells (madeCells #[.slice none 0 0] q) /-t-/24) := ⟨_, rfl⟩
  rw [← hg, ← hw4] at HG0
  have hmk := HMK.out
  clear hc3
  go_wp2_with fail
  rw [← hw4, ← hg]
  clear hmk hg hw4
  go_loopw [17, 18, 52, 53, 54, 55, 56, 57, 58, 59, 60, 61, 62, 63, 64, 65, 66, 67] (fun _ _ i _ _ _ _ _ _ _ _ _ _ _ _ _ _ _ wr => ∃ r : Nat, r ≤ q ∧ i = .int .i64 r ∧ Hid (GotV w3 wr g q r Lf (lftX Z))) (fun _ _ i _ _ _ _ _ _ _ _ _ _ _ _ _ _ _ _ => q - (intOf i).toNat)
  case atStart => exact ⟨0, Nat.zero_le _, rfl, HG0⟩
  case round =>
    obtain ⟨r, hr, rfl, HG⟩ := hrel
    clear HG0
    have r0 : (0 : Int) ≤ (r : Int) := Int.natCast_nonneg _
    obtain ⟨x0, x1, x2, x3⟩ := HX3.out.gr HG.out.ch
    by_cases hlt : r < q
    · have r1 : (r : Int) < (q : Int) := by omega
      obtain ⟨b, o, A', C', hA, c1, hrow⟩ := mat_at2 HL.out hlt
      have hcw := HC3.out.trans HG.out.ch
      have c1 := hcw.cell c1 (fun f => f)
      have hrow := hrow.gr hcw
      obtain ⟨lr, hlr⟩ : ∃ lr, lr = L r := ⟨_, rfl⟩
      obtain ⟨zr, hzr⟩ : ∃ zr, zr = Z r := ⟨_, rfl⟩
      have HZ : Hid (Lf r = if shrB vol no ((at0 : Int) + (r : Int)) lr zr then 228 else 0) := Lib.hid (by rw [HLf.out, hlr, hzr]; rfl)
      have HZX : Hid (lftX Z r = fun c => zr (24 + c) % 256) := Lib.hid (by rw [hzr]; rfl)
      rw [← hlr] at c1
      rw [← hlr, ← hzr] at hrow
      subst hA
      have HT := Lib.hid (stold_any A' lr C' zr vol ((at0 : Int) + (r : Int)) no wr hrow)
      have HLT := Lib.hid hlt
      clear hcw hrow hlr hzr
      go_wp2_with fail
      refine HT.out.mono ?_
      rintro e w5 ⟨v, rfl, hv, hc5⟩
      rw [← HZ.out, ← HZX.out] at hv
      obtain ⟨Av, Cv, rfl, _⟩ := id hv
      have HGW := Lib.hid (HG.out.gr hc5)
      obtain ⟨⟨v0, e0⟩, e1⟩ := HGW.out.cell hlt
      have HPUT := Lib.hid (HGW.out.put hlt hv)
      obtain ⟨lf, hlf⟩ : ∃ lf, lf = Lf r := ⟨_, rfl⟩
      rw [← hlf] at HPUT ⊢
      clear hv hc5 HT hlf x0 x1 x2 x3 c1
      go_wp2
      go_roundw
      case rel => exact ⟨r + 1, HLT.out, by go_num, HPUT⟩
      case measure => have := HLT.out; simp [intOf]; omega
    · have hrq : r = q := by omega
      have r1 : ¬ (r : Int) < (q : Int) := by omega
      rw [hrq] at HG
      have HMA := Lib.hid (HG.out.mat (by omega))
      have HCG := Lib.hid (HC3.out.trans HG.out.ch)
      clear hrq
      by_cases hok : n.K ≤ (idx Lf q).length
      · have HDC := Lib.hid (decode_yes g 0 q q n.K Lf (lftX Z) (lftX_b Z) wr HK.out.1 HK.out.2 (by omega) HMA.out HFT.out hok)
        have HOK := Lib.hid hok
        clear hok
        go_wp2_with fail
        refine HDC.out.mono ?_
        rintro e w5 ⟨D, hD, v, rfl, hbl, hc5⟩
        have hlong := HLG.out (Nat.lt_of_lt_of_le HK.out.1 HOK.out)
        rw [hlong] at hD hbl
        have HFIN : Hid (SStp q n.K Lf (lftX Z) w (.returned (.tuple #[v, .int .i64 0])) w5) := Lib.hid (Or.inl ⟨HOK.out, D, hD, v, rfl, hbl.mat (by omega), HCG.out.trans hc5⟩)
        clear hD hbl hc5 hlong x0 x1 x2 x3
        go_wp2
        go_ret2
        exact HFIN.out
      · have HDC := Lib.hid (decode_lost g 0 q q n.K Lf (lftX Z) wr HK.out.1 HK.out.2 (by omega) HMA.out (fun h => hok h.2))
        have HOK := Lib.hid (Nat.lt_of_not_le hok)
        clear hok
        go_wp2_with fail
        refine HDC.out.mono ?_
        rintro e w5 (⟨hno, _⟩ | ⟨_, hlo, rfl, hc5⟩)
        · exact absurd HFT.out hno
        · have HFIN : Hid (SStp q n.K Lf (lftX Z) w (.returned (.tuple #[.slice none 0 0, .int .i64 22])) w5) := Lib.hid (Or.inr ⟨HOK.out, rfl, HCG.out.trans hc5⟩)
          clear hlo hc5 x0 x1 x2 x3
          go_wp2
          go_ret2
          exact HFIN.out
end Go.Proofs.YtlbdopcchoklhaaGreat
