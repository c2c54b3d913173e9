/-
  The document's own device (quartermasterref06), walked: FaultRot; Fault whole. The document's own device (quartermasterref06), walked: Fault whole; law06.did.
-/
import Derived.Test.YtjibfoplihaabaaMg32
namespace Go.Proofs.Ytjibfoplihaabaa
open Go.RowKit
set_option linter.unusedVariables false
set_option maxRecDepth 100000

theorem own_secs {w : World} {base : Nat} {v : Value} {z : Nat → Nat} (h : w.ownsRow base /-t-/5 1 v 256 (bytesL 256 z)) : ∃ g cap, v = .slice (some ⟨g, 0, none⟩) 256 cap ∧ 256 ≤ cap ∧ base ≤ g ∧ SecsIs w g /-t-/5 256 (fun i => .int .u8 (z i : Int)) := by
  rcases h.2 with ⟨_, q⟩ | ⟨g, cap, cur, rfl, hb, h1, h2, _, h4, h5⟩
  · omega
  · refine ⟨g, cap, rfl, h2, hb, cur, h1, by omega, fun j hj => ?_⟩
    have e := congrArg (fun l : List Value => l[j]?) h5
    simp only [Nat.mul_one] at e
    rw [List.getElem?_take, if_pos hj, bytesL_get hj, Array.getElem?_toList] at e
    exact e
theorem secs_brow {w : World} {g cap : Nat} {z : Nat → Nat} (h : SecsIs w g /-t-/5 256 (fun i => .int .u8 (z i : Int))) (hz : Bytes 256 z) (hc : 256 ≤ cap) : BRow w (.slice (some ⟨g, 0, none⟩) 256 cap) z := by
  obtain ⟨c, h1, h2, h3⟩ := h
  exact ⟨g, 0, cap, c, rfl, hc, h1, fun j hj => ⟨by rw [Nat.zero_add]; exact h3 j hj, hz j hj⟩⟩
set_option maxHeartbeats 1600000 in
set_option maxRecDepth 100000 in
theorem rfault_rot (base : Nat) (F : Nat → Prop) (q : Rh) (d : Dev) (f : Fa) (w : World) (h : RefIs base F w q d) (hf : FaOk f) (hb : hasB d f.pl = true) (hk : f.kind = 1) (hW : d.W.length ≤ 1048575) :
    Calls Try.prog 24 #[.pointer (some ⟨q.B, 0, none⟩), .agg (faC f)] w (RPost base F q.B (rotD d f) (.int .i64 (rotE f)) w) := by
  obtain ⟨k, hpl, hkn⟩ := in_hasB hb
  obtain ⟨w1, H, hR⟩ := ftR f h
  have c0 : w1.cell? ⟨q.B, 0, none⟩ = some (.slice (some ⟨q.G, 0, none⟩) d.n q.cG) := hR.dev.cellB 0
  have x0 : w1.cell? ⟨H, 0, none⟩ = some (.int .i64 1) := by rw [← hk]; exact hR.at 0
  have x1 : w1.cell? ⟨H, 1, none⟩ = some (.int .i64 (k : Int)) := by rw [← hpl]; exact hR.at 1
  have i1 : (0 : Int) ≤ (k : Int) := Int.natCast_nonneg _
  have i2 : (k : Int) < (d.n : Int) := by omega
  have hnn := h.nn
  have HR := Lib.hid hR
  by_cases hq : f.off < 0 ∨ 256 ≤ f.off
  · have hS : rotE f = 1 ∧ rotD d f = d := by unfold rotE rotD; rw [if_pos hq, if_pos hq]; exact ⟨rfl, rfl⟩
    rw [hS.1, hS.2]
    have x2 : w1.cell? ⟨H, 2, none⟩ = some (.int .i64 f.off) := hR.at 2
    have HP := Lib.hid (hR.same (.int .i64 1))
    obtain ⟨B, G, L, P, Q, cG, cL, cP, cQ, V, s, X, m, lf⟩ := q
    clear h hR hf hb hk hS hpl hW
    by_cases hq1 : f.off < 0
    · clear hq
      go_enter Try.func24, Try.ntmps24
      go_wp2_with ((with_reducible refine wpList_same ?_); refine wpList_boxing _ w1 rfl 45 (.tmp 1) rfl (faC f) H rfl (by exact HR.out.sz) (by exact HR.out.al) ?_)
      go_quiet (fail)
      go_wp2
      go_ret
      exact HP.out _
    · have hq2 : 255 < f.off := by omega
      clear hq
      go_enter Try.func24, Try.ntmps24
      go_wp2_with ((with_reducible refine wpList_same ?_); refine wpList_boxing _ w1 rfl 45 (.tmp 1) rfl (faC f) H rfl (by exact HR.out.sz) (by exact HR.out.al) ?_)
      go_quiet (fail)
      go_wp2
      go_ret
      exact HP.out _
  · obtain ⟨o, ho⟩ : ∃ o : Nat, f.off = (o : Int) := ⟨f.off.toNat, by omega⟩
    have ho256 : o < 256 := by omega
    obtain ⟨N, hN⟩ : ∃ N, N = min 4 (256 - o) := ⟨_, rfl⟩
    have hS : rotE f = 0 ∧ rotD d f = rotAt (settleD d k) k o (maskOf f) N := by unfold rotE rotD; rw [if_neg hq, if_neg hq, hpl, ho, hN, Int.toNat_natCast, Int.toNat_natCast]; exact ⟨rfl, rfl⟩
    rw [hS.1, hS.2]
    have x2 : w1.cell? ⟨H, 2, none⟩ = some (.int .i64 (o : Int)) := by rw [← ho]; exact hR.at 2
    have HK := Lib.hid hkn
    have HT := Lib.hid (fun n => hR.settle hW k n)
    have HPL := Lib.hid hpl
    have HOF := Lib.hid ho
    have HML := Lib.hid (mask_lt hf)
    have hN4 : N ≤ 4 := by omega
    have hoN : o + N ≤ 256 := by omega
    have HNE := Lib.hid (show N = 4 ∨ o + N = 256 by omega)
    have q1 : ¬ (o : Int) < 0 := by omega
    have q2' : ¬ (255 : Int) < (o : Int) := by omega
    clear h hR hf hb hk hW hpl hkn hq hS ho hN
    obtain ⟨B, G, L, P, Q, cG, cL, cP, cQ, V, s, X, m, lf⟩ := q
    go_enter Try.func24, Try.ntmps24
    go_wp2_with ((with_reducible refine wpList_same ?_); refine wpList_boxing _ w1 rfl 45 (.tmp 1) rfl (faC f) H rfl (by exact HR.out.sz) (by exact HR.out.al) ?_)
    go_quiet (fail)
    go_wp2_with fail
    refine (HT.out _).mono ?_
    rintro e w2 ⟨rfl, hA⟩
    have hn2 : (settleD d k).n = d.n := finAll_n _ _
    obtain ⟨F2, q2, hq2, h2, hH2, hF2⟩ := hA.dev
    obtain ⟨E, hE⟩ : ∃ E, E = settleD d k := ⟨_, rfl⟩
    rw [← hE] at h2 hn2
    obtain ⟨wd, hwd⟩ : ∃ wd, wd = w2.drew := ⟨_, rfl⟩
    have kd : Ch (fun _ => False) w2 wd := by rw [hwd]; exact (Ch.refl _ w2).drew
    have hd := h2.gr kd
    have z1 : wd.cell? ⟨B, 0, none⟩ = some (.slice (some ⟨q2.G, 0, none⟩) E.n q2.cG) := by have := hd.cellB 0; rw [hq2] at this; exact this
    rw [hn2] at z1
    have z2 : wd.cell? ⟨H, 1, none⟩ = some (.int .i64 (k : Int)) := kd.cell (by rw [← HPL.out]; exact hA.at 1) (fun f => f)
    have z3 : wd.cell? ⟨q2.G, k, none⟩ = some (q2.s k) := hd.cellS (by rw [hn2]; exact HK.out)
    have hrow := hd.srow k (by rw [hn2]; exact HK.out)
    have HBY := Lib.hid hrow.bytes
    obtain ⟨rb, ro, rC, hrv⟩ := hrow.form
    rw [hrv] at z3 hrow
    obtain ⟨vv, wb, hrc, hoc, hcc⟩ := app_copy hrow.row (by omega)
    obtain ⟨g, cap, rfl, hcap, hgl, hsec⟩ := own_secs hoc
    have y1 := hcc.cell z1 (fun f => f)
    have y2 := hcc.cell z2 (fun f => f)
    have y3 := hcc.cell z3 (fun f => f)
    have a2b : wb.cell? ⟨H, 2, none⟩ = some (.int .i64 (o : Int)) := hcc.cell (kd.cell (by rw [← HOF.out]; exact hA.at 2) (fun f => f)) (fun f => f)
    have HM2 : Hid (∀ j, j < 4 → wb.cell? ⟨H, 5 + j, none⟩ = some (.int .u8 (maskOf f j : Int))) := fun j hj => hcc.cell (kd.cell (by rw [hA.at]; exact mask_cell hj) (fun f => f)) (fun f => f)
    have HKB := Lib.hid (kd.trans hcc)
    have HGL := Lib.hid (show w2.heap.size ≤ g from Nat.le_trans kd.size hgl)
    have HHS := Lib.hid (show H < w2.heap.size by have := hA.ch.size; have e1 : w1.heap.size = H + 1 := by rw [← HR.out.al, ← HR.out.sz]; simp
                                                  exact World.block_lt_of_cell? _ _ (hA.at 1))
    have HSEC := Lib.hid hsec
    have HCAP := Lib.hid hcap
    have HRC := Lib.hid hrc
    have HWD := Lib.hid hwd
    have HA := Lib.hid hA
    have H2 := Lib.hid h2
    have HQ2 := Lib.hid hq2
    have HH2 := Lib.hid hH2
    have HF2 := Lib.hid hF2
    have HN2 := Lib.hid hn2
    have HEE := Lib.hid hE
    obtain ⟨G2, hG2⟩ : ∃ G2, G2 = q2.G := ⟨_, rfl⟩
    obtain ⟨cG2, hcG2⟩ : ∃ cG2, cG2 = q2.cG := ⟨_, rfl⟩
    have HG2 := Lib.hid hG2
    have HCG2 := Lib.hid hcG2
    rw [← hG2, ← hcG2] at z1 y1
    rw [← hG2] at z3 y3
    clear hA h2 hq2 hn2 hH2 hF2 hE hwd kd hd hrow hrv hrc hoc hcc hgl hsec hcap hG2 hcG2 x0 x1 x2 c0 HT
    go_wp2
    refine wp_region_held (S := fun W' : World => W'.cell? ⟨B, 0, none⟩ = some (.slice (some ⟨G2, 0, none⟩) d.n cG2) ∧ W'.cell? ⟨H, 1, none⟩ = some (.int .i64 (k : Int)) ∧ W'.cell? ⟨G2, k, none⟩ = some (.slice (some ⟨rb, ro, none⟩) 256 rC)) (by kernel_rfl) ?_
    change wpAnyH _ _ _ _ _ _ _ _ (World.drew _)
    rw [← HWD.out]
    have HS : (fun W' : World => W'.cell? ⟨B, 0, none⟩ = some (.slice (some ⟨G2, 0, none⟩) d.n cG2) ∧ W'.cell? ⟨H, 1, none⟩ = some (.int .i64 (k : Int)) ∧ W'.cell? ⟨G2, k, none⟩ = some (.slice (some ⟨rb, ro, none⟩) 256 rC)) wd := ⟨z1, z2, z3⟩
    refine wpAnyH_take (i := 0) (v := .pointer (some ⟨B, 0, none⟩)) rfl (by kernel_rfl) (by kernel_rfl) (by kernel_rfl) (fun _ _ _ h => h) (Or.inl ⟨by rfl, fun w' hS => ?_⟩) HS ?_
    · obtain ⟨s1, s2, s3⟩ := hS; go_simp
    refine wpAnyH_take (i := 1) (v := .pointer (some ⟨B, 0, none⟩)) rfl (by kernel_rfl) (by kernel_rfl) (by kernel_rfl) (fun _ _ _ h => h) (Or.inl ⟨by rfl, fun w' hS => ?_⟩) HS ?_
    · obtain ⟨s1, s2, s3⟩ := hS; go_simp
    refine wpAnyH_take (i := 2) (v := .pointer (some ⟨B, 0, none⟩)) rfl (by kernel_rfl) (by kernel_rfl) (by kernel_rfl) (fun _ _ _ h => h) (Or.inl ⟨by rfl, fun w' hS => ?_⟩) HS ?_
    · obtain ⟨s1, s2, s3⟩ := hS; go_simp
    refine wpAnyH_take (i := 3) (v := .slice (some ⟨G2, 0, none⟩) d.n cG2) rfl (by kernel_rfl) (by kernel_rfl) (by kernel_rfl) (fun _ _ _ h => h) (Or.inl ⟨by rfl, fun w' hS => ?_⟩) HS ?_
    · obtain ⟨s1, s2, s3⟩ := hS; go_simp
    refine wpAnyH_take (i := 4) (v := .pointer (some ⟨H, 1, none⟩)) rfl (by kernel_rfl) (by kernel_rfl) (by kernel_rfl) (fun _ _ _ h => h) (Or.inl ⟨by rfl, fun w' hS => ?_⟩) HS ?_
    · obtain ⟨s1, s2, s3⟩ := hS; go_simp
    refine wpAnyH_take (i := 5) (v := .int .i64 (k : Int)) rfl (by kernel_rfl) (by kernel_rfl) (by kernel_rfl) (fun _ _ _ h => h) (Or.inl ⟨by rfl, fun w' hS => ?_⟩) HS ?_
    · obtain ⟨s1, s2, s3⟩ := hS; go_simp
    refine wpAnyH_take (i := 6) (v := .pointer (some ⟨G2, k, none⟩)) rfl (by kernel_rfl) (by kernel_rfl) (by kernel_rfl) (fun _ _ _ h => h) (Or.inl ⟨by rfl, fun w' hS => ?_⟩) HS ?_
    · obtain ⟨s1, s2, s3⟩ := hS; go_simp
    refine wpAnyH_take (i := 7) (v := .slice (some ⟨rb, ro, none⟩) 256 rC) rfl (by kernel_rfl) (by kernel_rfl) (by kernel_rfl) (fun _ _ _ h => h) (Or.inl ⟨by rfl, fun w' hS => ?_⟩) HS ?_
    · obtain ⟨s1, s2, s3⟩ := hS; go_simp
    refine wpAnyH_ready (rs := [8]) (by kernel_rfl) (by simp) ?_
    refine AllReadyH.cons rfl (fun K hK => ?_) AllReadyH.nil
    refine step_appM rfl (.const (.slice none 0 0)) (.tmp 44) rfl rfl _ _ (.slice (some ⟨g, 0, none⟩) 256 cap) wb (by first | (simp [Act.eval]; done) | simp [Act.eval, Act.put]) (by first | (simp [Act.eval]; done) | simp [Act.eval, Act.put]) HRC.out ?_
    refine hK.out _ _ ⟨y1, y2, y3⟩ (fun _ => ?_)
    clear hK K
    refine wpAnyH_ready (rs := [9]) (by kernel_rfl) (by simp) ?_
    refine AllReadyH.cons rfl (fun K hK => ?_) AllReadyH.nil
    go_simp
    refine hK.out _ _ ⟨y1, y2, y3⟩ (fun _ => ?_)
    clear hK K
    refine wpAnyH_done (by kernel_rfl) ?_ _
    clear HRC HWD z1 z2 z3
    go_wp2
    have HS0 := Lib.hid (show SecsIs wb g /-t-/5 256 (fun i => .int .u8 ((rotZ (E.has k) o (maskOf f) 0 i : Nat) : Int)) ∧ Ch (fun b => b = g) wb wb by rw [rotZ_zero]; exact ⟨HSEC.out, Ch.refl _ _⟩)
    go_loopw [6] (fun i wr => ∃ j : Nat, j ≤ N ∧ i = .int .i64 j ∧ Hid (SecsIs wr g /-t-/5 256 (fun i => .int .u8 ((rotZ (E.has k) o (maskOf f) j i : Nat) : Int)) ∧ Ch (fun b => b = g) wb wr)) (fun i _ => N - (intOf i).toNat)
    case atStart => exact ⟨0, Nat.zero_le _, rfl, HS0⟩
    case round =>
      obtain ⟨j, hj, rfl, HJ⟩ := hrel
      have hgH : ¬ H = g := fun e => by have := HGL.out; have := HHS.out; omega
      have a1 : wr.cell? ⟨H, 2, none⟩ = some (.int .i64 (o : Int)) := HJ.out.2.cell a2b hgH
      by_cases hlt : j < N
      · have a2 : wr.cell? ⟨H, 5 + j, none⟩ = some (.int .u8 (maskOf f j : Int)) := HJ.out.2.cell (HM2.out j (by omega)) hgH
        have hb0 := HBY.out (o + j) (by omega)
        have hmj := HML.out j
        have a3 : wr.cell? ⟨g, o + j, none⟩ = some (.int .u8 (E.has k (o + j) : Int)) := by
          rw [HJ.out.1.cell (by omega), rotZ_at]
        have f3 : wr.frozen? ⟨g, o + j, none⟩ = false := HJ.out.1.frozen _
        have HNX := Lib.hid (show SecsIs (wr.setCell ⟨g, o + j, none⟩ (.int .u8 ((E.has k (o + j) ^^^ maskOf f j : Nat) : Int))) g /-t-/5 256 (fun i => .int .u8 ((rotZ (E.has k) o (maskOf f) (j + 1) i : Nat) : Int)) from
          (HJ.out.1.set (o + j) _).congr (fun i _ => by
            rw [← rotZ_succ]
            unfold up
            split <;> rfl))
        have HCX := Lib.hid (show Ch (fun b => b = g) wb (wr.setCell ⟨g, o + j, none⟩ (.int .u8 ((E.has k (o + j) ^^^ maskOf f j : Nat) : Int))) from Ch.setCell (S := fun b => b = g) HJ.out.2 (p := ⟨g, o + j, none⟩) (Or.inl rfl) _)
        have HDF := Lib.hid (rdiffer_any (E.has k (o + j)) (maskOf f j) hb0 hmj)
        obtain ⟨X1, hX⟩ : ∃ X1 : Nat, X1 = E.has k (o + j) := ⟨_, rfl⟩
        obtain ⟨M1, hM⟩ : ∃ M1 : Nat, M1 = maskOf f j := ⟨_, rfl⟩
        rw [← hX, ← hM] at HNX HCX HDF
        rw [← hX] at a3
        rw [← hM] at a2
        have j1 : (0 : Int) ≤ (j : Int) := Int.natCast_nonneg _
        have j2 : (j : Int) < 4 := by omega
        have j3 : (o : Int) + (j : Int) < 256 := by omega
        have j4 : (0 : Int) ≤ (o : Int) + (j : Int) := by omega
        have j5 : IntKind.i64.wrap ((o : Int) + (j : Int)) = (o : Int) + (j : Int) := by rw [IntKind.wrap_i64]; omega
        have j6 : ((o : Int) + (j : Int)).toNat = o + j := by omega
        clear hb0 hmj hX hM hgH
        go_wp2
        go_region_with (go_at_call 42; refine (HDF.out _).mono ?_; rintro e w' ⟨rfl, rfl⟩)
        all_goals
          go_wp2
          go_roundw
          case rel => exact ⟨j + 1, by omega, by go_num, Lib.hid ⟨HNX.out.of_block rfl, HCX.out.drew⟩⟩
          case measure => simp [intOf]; omega
      · obtain rfl : j = N := by omega
        have kg : Ch (fun _ => False) w2 wr := HKB.out.new (HJ.out.2.mono fun i _ (e : i = g) => by have := HGL.out; rw [e]; exact this)
        have h3 := H2.out.gr kg
        have hbz : Bytes 256 (rotZ (E.has k) o (maskOf f) j) := rotZ_lt HBY.out HML.out
        have hgw := h3.grow (w0 := w2) H2.out.le kg.size
        have h4 := hgw.setS (a := k) (.slice (some ⟨g, 0, none⟩) 256 cap) (rotZ (E.has k) o (maskOf f) j) (secs_brow HJ.out.1 hbz HCAP.out) (fun i hi => by
          injection hi with hi
          subst hi
          exact Or.inr ⟨HGL.out, HJ.out.1.lt⟩)
        have e0 : wr.cell? ⟨B, 0, none⟩ = some (.slice (some ⟨G2, 0, none⟩) d.n cG2) := by rw [HG2.out, HCG2.out, ← HN2.out]; have := h3.cellB 0; rw [HQ2.out] at this; exact this
        have e1 : wr.cell? ⟨H, 1, none⟩ = some (.int .i64 (k : Int)) := HJ.out.2.cell y2 hgH
        have e2 : wr.cell? ⟨G2, k, none⟩ = some (q2.s k) := by rw [HG2.out]; exact h3.cellS (by rw [HN2.out]; exact HK.out)
        have e3 : wr.frozen? ⟨G2, k, none⟩ = false := by rw [HG2.out]; exact h3.sec.frozen k
        have hp := (h4.gr ((Ch.refl _ _).drew)).end (r := .int .i64 0) HF2.out (fun i hi => hi.elim Or.inl (fun e => Or.inr ⟨e.1, by simpa [World.setCell] using e.2⟩)) HA.out.ch ((kg.mono fun _ _ f => f.elim).trans (((Ch.refl F2 wr).setCell (p := ⟨q2.G, k, none⟩) (Or.inl H2.out.fG) _).drew)) HR.out.fl HR.out.le
        rw [show ({ q2 with s := up q2.s k (.slice (some ⟨g, 0, none⟩) 256 cap) } : Rh).B = B from HQ2.out, ← HG2.out] at hp
        have hp2 : RPost base F B (rotAt E k o (maskOf f) j) (.int .i64 0) w (.returned (.int .i64 0)) ((wr.setCell ⟨G2, k, none⟩ (.slice (some ⟨g, 0, none⟩) 256 cap)).drew) := hp
        rw [HEE.out] at hp2
        have HP := Lib.hid hp2
        have j1 : (0 : Int) ≤ (j : Int) := Int.natCast_nonneg _
        clear hp hp2 h4 hgw hbz h3 kg hgH y1 y2 y3 a2b
        by_cases q4 : j = 4
        · have t4 : ¬ (j : Int) < 4 := by omega
          clear q4
          go_wp2
          go_region
          all_goals (go_wp2; go_ret; exact HP.out)
        · have t4 : (j : Int) < 4 := by omega
          have t5 : (o : Int) + (j : Int) = 256 := by have := HNE.out; omega
          have t6 : ¬ (o : Int) + (j : Int) < 256 := by omega
          clear q4
          go_wp2
          go_region
          all_goals (go_wp2; go_ret; exact HP.out)
#print axioms rfault_rot
end Go.Proofs.Ytjibfoplihaabaa
namespace Go.Proofs.Ytjibfoplihaabaa
open Go.RowKit
set_option linter.unusedVariables false
set_option maxRecDepth 100000

theorem rfault_any (base : Nat) (F : Nat → Prop) (q : Rh) (d : Dev) (f : Fa) (t : Nat) (w : World) (h : RefIs base F w q d) (hf : FaOk f) (hl : Lim d t) (hm : LimM d t) (ht : t ≤ 1000000) :
    Calls Try.prog 24 #[.pointer (some ⟨q.B, 0, none⟩), .agg (faC f)] w (RPost base F q.B (faultD d f) (.int .i64 (faultE d f)) w) := by
  unfold faultE faultD
  cases hb : hasB d f.pl
  · exact rfault_none base F q d f w h hf hb
  · have hW : d.W.length ≤ 1048575 := by have := hl.W; omega
    rw [if_pos rfl, if_pos rfl]
    by_cases k1 : f.kind = 1
    · rw [if_pos k1, if_pos k1]; exact rfault_rot base F q d f w h hf hb k1 hW
    rw [if_neg k1, if_neg k1]
    by_cases k2 : f.kind = 2
    · rw [if_pos k2, if_pos k2]; exact rfault_blank base F q d f w h hf hb k2 hW
    rw [if_neg k2, if_neg k2]
    by_cases k3 : f.kind = 3
    · rw [if_pos k3, if_pos k3]; exact rfault_lose base F q d f w h hf hb k3 hW
    rw [if_neg k3, if_neg k3]
    by_cases k4 : f.kind = 4
    · rw [if_pos k4, if_pos k4]; exact rfault_drop base F q d f w h hf hb k4 (fun a => by have := hl.drops a; omega)
    rw [if_neg k4, if_neg k4]
    by_cases k5 : f.kind = 5
    · rw [if_pos k5, if_pos k5]; exact rfault_miss base F q d f w h hf hb k5 (by have := hm f.pl.toNat; omega)
    rw [if_neg k5, if_neg k5]
    exact rfault_arg base F q d f w h hf hb ⟨k1, k2, k3, k4, k5⟩
#print axioms rfault_any

/-! ### did -/
/-- Cells of its own block turn. -/
theorem RefIs.turnB {base : Nat} {F : Nat → Prop} {w w' : World} {q : Rh} {d : Dev} (h : RefIs base F w q d) (dead armed : Bool) (left : Int) (ops : Nat) (l : Int) (hw : w'.heap[q.B]? = some (.cells (refC { q with lf := l } { d with dead := dead, armed := armed, left := left, ops := ops }) 67 (0, 0))) (k : ∀ g, g ≠ q.B → w'.heap[g]? = w.heap[g]?) (hs : w.heap.size ≤ w'.heap.size) (hl : I64 l) (ha : armed = true → l = left ∧ 0 ≤ left) :
    RefIs base F w' { q with lf := l } { d with dead := dead, armed := armed, left := left, ops := ops } := by
  have o := h.off h.blk (by decide)
  have oM := h.offM h.blk (by decide)
  have oV := h.offV h.blk (by decide)
  exact ⟨hw, h.sec.of_block (k _ h.BG.symm), h.los.of_block (k _ h.BL.symm), h.drp.of_block (k _ h.BP.symm), h.mis.of_block (k _ h.BQ.symm), own_of h.wts (fun i hi => k i (fun e => oV (e ▸ hi))), h.XW,
    fun a ha => (h.srow a ha).of (fun i hi => k i (fun e => o.1 a ha (e ▸ hi))), fun y hy => (h.xrow y hy).of (fun i hi => k i (fun e => o.2 y hy (e ▸ hi))), fun a ha => (h.ms a ha).of (fun i hi => k i (fun e => oM a ha (e ▸ hi))), h.mP,
    h.fB, h.fG, h.fL, h.fP, h.fQ, h.fV, h.fs, h.fx, h.fm, h.wok, h.mok, h.nn, hl, ha, h.low, fun i hi => Nat.lt_of_lt_of_le (h.hi i hi) hs⟩
theorem RefIs.arm {base : Nat} {F : Nat → Prop} {w : World} {q : Rh} {d : Dev} (h : RefIs base F w q d) (n : Int) (hn : I64 n) : RefIs base F ((w.setCell ⟨q.B, 5, none⟩ (.bool (decide (0 ≤ n)))).setCell ⟨q.B, 7, none⟩ (.int .i64 n)) { q with lf := n } (armD d n) := by
  refine h.turnB d.dead (decide (0 ≤ n)) n d.ops n ?_ (fun g hg => (Below.heap_setCell _ _ _ g hg).trans (Below.heap_setCell _ _ _ g hg)) (by simp [World.setCell]) hn (fun e => ⟨rfl, of_decide_eq_true e⟩)
  exact (blk_set (blk_set h.blk _) _).trans rfl
theorem RPost.since {base : Nat} {F : Nat → Prop} {w w1 w' : World} {d' : Dev} {B : Nat} {r : Value} {e : Ending} (h : RPost base F B d' r w1 e w') (k : Ch (fun _ => False) w w1) (h0 : base ≤ w.heap.size) (hF : ∀ i, F i → base ≤ i ∧ i < w.heap.size) : RPost base F B d' r w e w' := by
  obtain ⟨rfl, q', rfl, h3, h4⟩ := h
  exact RPost.last h3 (fun i hi => hi.elim Or.inl (fun e => Or.inr ⟨Nat.le_trans k.size e.1, e.2⟩)) hF ((k.mono fun _ _ f => f.elim).trans h4) h0
end Go.Proofs.Ytjibfoplihaabaa
