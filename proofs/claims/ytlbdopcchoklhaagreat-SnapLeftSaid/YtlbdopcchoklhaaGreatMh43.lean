/-
  law12.awake, walked. The document's Owners, Members, Where (quartermasterref08), walked.
-/
import Derived.Test.YtlbdopcchoklhaaGreatMh42
import Derived.Test.YtlbdopcchoklhaaGreatMh5
import Derived.Test.YtlbdopcchoklhaaGreatMh3
namespace Go.Proofs.YtlbdopcchoklhaaGreat
open Go.RowKit
set_option linter.unusedVariables false
set_option maxRecDepth 100000
set_option linter.unusedSimpArgs false

/-! ### plainly -/
def snN : Gn := ⟨8, 1, 2, 1⟩
theorem snN_ok : snN.Ok := ⟨by decide, by decide, by decide, by decide, by decide, by decide, by decide, by decide⟩
/-- 300 bytes, noughts but the last one. -/
def snB (i : Nat) : Nat := if i = 299 then 9 else 0
theorem snB_b : Bytes 300 snB := fun c _ => by unfold snB; split <;> omega
def snBad : Fa := ⟨2, 0, 0, 0, 0, 1, 0, 0, 0⟩
def snFa : Fa := ⟨2, 24, 0, 0, 0, 0, 0, 0, 0⟩
theorem snBad_ok : FaOk snBad ∧ FaBad snBad ∧ FaOk snFa := by
  have z : I64 0 := by unfold I64; omega
  have k2 : I64 2 := by unfold I64; omega
  have k24 : I64 24 := by unfold I64; omega
  have b : (0 : Nat) < 256 := by decide
  have b1 : (1 : Nat) < 256 := by decide
  exact ⟨⟨k2, z, z, z, z, b1, b, b, b⟩, ⟨⟨by decide, by decide⟩, ⟨by decide, by decide⟩, by decide⟩, ⟨k2, k24, z, z, z, b, b, b, b⟩⟩
def snD1 : Dev := (allTo (snpP 7 3 4 snN 1 (padZ 300 snB)) (bkD 7 26) 3).d
def snD2 : Dev := faultD snD1 snFa
theorem snFa_same (d : Dev) (h : hasB d 24 = true) : faultD d snFa = faultD d (faAt snBad 24) := by
  unfold faultD
  have h1 : hasB d snFa.pl = true := h
  have h2 : hasB d (faAt snBad 24).pl = true := h
  rw [h1, h2, if_pos rfl, if_pos rfl]
  simp only [snFa, snBad, faAt]
  rfl
theorem sn_hu1 (d : Dev) : huS snBad (fun j => decide (j = 1)) 23 d 3 = faultD d (faAt snBad ((24 : Nat) : Int)) := rfl
theorem sn_nums : frsN snN 1 0 = 23 ∧ frsN snN 0 0 = 20 ∧ snN.S * snN.q = 3 ∧ secsG snN = 26 ∧ snN.q = 3 := ⟨rfl, rfl, rfl, rfl, rfl⟩
theorem sn_fault {d1 : Dev} {Z : Nat → Nat} (hZ : ∀ i, Z i < 256) (h2 : SnpOn 26 d1 7 3 4 snN 1 Z (fun _ => false)) (h3 : ∀ b, b < 23 → ∀ c, c < 256 → d1.has b c = sectZ (fbk 7 (b : Int)) c) :
    SnpOn 26 (faultD d1 snFa) 7 3 4 snN 1 Z (fun j => decide (j < 3) && decide (j = 1)) ∧ SnpOn 26 (faultD d1 snFa) 7 0 4 snN 0 (fun _ => 0) (fun _ => true) := by
  obtain ⟨n1, n0, nq, ns, nqq⟩ := sn_nums
  have hfin := h2.fine
  have e24 : faultD d1 snFa = faultD d1 (faAt snBad ((24 : Nat) : Int)) := snFa_same d1 (decide_eq_true (by rw [hfin.qt.n]; decide))
  have hg := h2.good 1 (by rw [nq]; decide) rfl
  rw [n1] at hg
  obtain ⟨f1, f2, f3⟩ := fault_hurt hfin snBad_ok.1 snBad_ok.2.1 (k := 24) (by decide) (b := shrK 7 3 4 snN 1 Z undef (1 / snN.q) (1 % snN.q)) (fun c _ => shares_b snN.K (datZ snN.K Z (1 / snN.q)) (1 % snN.q) c) hg.2
  have hu := snp_hurt h2 (by rw [n1, nq]; decide) hZ snBad_ok.1 snBad_ok.2.1 (fun j => decide (j = 1)) 3 (by rw [nq]; decide)
  rw [n1, sn_hu1] at hu
  rw [e24]
  refine ⟨hu, f1, (fun j _ e => by cases e), fun j hj _ => Or.inr ?_⟩
  rw [nq] at hj
  rw [n0]
  have e1 := (f3 (20 + j) (by omega)).1
  rw [e1]
  exact shr_blank (v := 7) ⟨by omega, by omega⟩ (by omega) (h3 (20 + j) (by omega))
structure SnAw : Prop where
  e1 : (allTo (snpP 7 3 4 snN 1 (padZ 300 snB)) (bkD 7 26) 3).e = 0
  on1 : SnpOn 26 snD2 7 3 4 snN 1 (padZ 300 snB) (fun j => decide (j < 3) && decide (j = 1))
  on0 : SnpOn 26 snD2 7 0 4 snN 0 (fun _ => 0) (fun _ => true)
theorem snAw : SnAw := by
  obtain ⟨n1, n0, nq, ns, nqq⟩ := sn_nums
  obtain ⟨h1, h2, h3⟩ := snp_first (n := snN) snN_ok (a := 1) (Nat.le_refl 1) 7 3 4 (padZ 300 snB)
  rw [n1] at h3
  rw [nq, ns] at h1 h2 h3
  have hz := (bk_fine 7 26).2.1
  obtain ⟨g1, g2⟩ := sn_fault (fun i => padZ_b snB_b i) h2 fun b hb c hc => by
    rw [(h3 b (Or.inl hb)).1]
    exact (hz b (by omega)).2 c hc
  exact ⟨h1, g1, g2⟩
theorem built_sfa (w : World) : (Instr.build 45 #[(0, .int .i64 2), (1, .int .i64 24)]).run Tryz.prog w = .ok (.agg (faC snFa)) w := run_build w _ _ _ (by kernel_rfl)
theorem sn_lims : (Lim (bkD 7 26) 26 ∧ LimM (bkD 7 26) 26) ∧ (Lim snD1 100 ∧ LimM snD1 100) ∧ Lim snD2 101 := by
  have h0 := bkD_lims 7 26
  have h1 := allTo_lim (f := snpP 7 3 4 snN 1 (padZ 300 snB)) h0.1 h0.2 3
  have h1' : Lim snD1 100 ∧ LimM snD1 100 := ⟨h1.1.mono (by decide), h1.2.mono (by decide)⟩
  exact ⟨h0, h1', ((near_fault snD1 snFa).lim h1'.1 h1'.2).1⟩
theorem sn_d1 : (allTo (snpP 7 3 4 snN 1 (padZ 300 snB)) (bkD 7 26) 3).d = snD1 := rfl
theorem sn_d2 : faultD snD1 snFa = snD2 := rfl
theorem eqB_self (n : Nat) (z : Nat → Nat) : eqB n n z z = true := eqB_yes rfl fun _ _ => rfl
theorem sn_nums2 : snN.S = 1 ∧ snN.M = 1 ∧ snN.K = 2 := ⟨rfl, rfl, rfl⟩
theorem sn_enough : Enough snN (fun j => decide (j < 3) && decide (j = 1)) := fun s hs => by
  rw [sn_nums2.1] at hs
  obtain rfl : s = 0 := by omega
  rw [sn_nums2.2.1, sn_nums.2.2.2.2]
  decide
theorem sn_few : ¬ Enough snN (fun _ => true) := fun h => by
  have := h 0 (by rw [sn_nums2.1]; decide)
  rw [sn_nums2.2.1, sn_nums.2.2.2.2] at this
  revert this
  decide
theorem sn_good {v : Value} {k : Int} {w' : World} (h : (k = 0 ∧ ∃ Ds, (∀ s, s < snN.S → snN.K ≤ leftN snD2 7 4 snN 1 s ∧ DatS snD2 7 4 snN 1 s (Ds s)) ∧ RowV w' v 300 (rdB snN.K Ds)) ∨ (k = 22 ∧ v = .slice none 0 0 ∧ ∃ s, s < snN.S ∧ leftN snD2 7 4 snN 1 s < snN.K)) : k = 0 ∧ RowV w' v 300 snB := by
  have hZ : ∀ i, padZ 300 snB i < 256 := fun i => padZ_b snB_b i
  have hs : secsG snN ≤ 26 := by rw [sn_nums.2.2.2.1]; exact Nat.le_refl _
  rcases h with ⟨rfl, Ds, h1, h2⟩ | ⟨_, _, s, h1, h2⟩
  · refine ⟨rfl, h2.congr fun c hc => ?_⟩
    rw [rd_bytes snAw.on1 snN_ok (Nat.le_refl 1) hs ⟨by omega, by omega⟩ ⟨by omega, by omega⟩ ⟨by omega, by omega⟩ hZ h1 (show c < snN.S * snN.K * 228 by rw [sn_nums2.1, sn_nums2.2.2]; omega)]
    exact if_pos hc
  · have := (rd_enough snAw.on1 snN_ok (Nat.le_refl 1) hs ⟨by omega, by omega⟩ ⟨by omega, by omega⟩ ⟨by omega, by omega⟩ hZ).1 sn_enough s h1
    omega
theorem sn_none {v : Value} {k : Int} {w' : World} (h : (k = 0 ∧ ∃ Ds, (∀ s, s < snN.S → snN.K ≤ leftN snD2 7 4 snN 0 s ∧ DatS snD2 7 4 snN 0 s (Ds s)) ∧ RowV w' v 300 (rdB snN.K Ds)) ∨ (k = 22 ∧ v = .slice none 0 0 ∧ ∃ s, s < snN.S ∧ leftN snD2 7 4 snN 0 s < snN.K)) : k = 22 ∧ v = .slice none 0 0 := by
  have hs : secsG snN ≤ 26 := by rw [sn_nums.2.2.2.1]; exact Nat.le_refl _
  rcases h with ⟨_, Ds, h1, _⟩ | ⟨h1, h2, _⟩
  · exact absurd ((rd_enough snAw.on0 snN_ok (Nat.zero_le 1) hs ⟨by omega, by omega⟩ ⟨by omega, by omega⟩ ⟨by omega, by omega⟩ (fun _ => by omega)).2 fun s hs => (h1 s hs).1) sn_few
  · exact ⟨h1, h2⟩
set_option maxHeartbeats 12800000 in
theorem snawake_any (w : World) : Calls Tryz.prog 9 #[] w (Ans (.bool true) w) := by
  have hG8 : (#[.int .i64 8, .int .i64 1, .int .i64 2, .int .i64 1] : Array Value) = geC snN.ge := rfl
  obtain ⟨w1, H, hR⟩ := geR w snN.ge
  have hal := hR.al
  have hsz := hR.sz
  have HR := Lib.hid hR
  have HBK := Lib.hid ((lawBlank_any 7 snN.ge w1 ⟨by omega, by omega⟩))
  have HG8 := Lib.hid hG8
  clear hR hG8
  go_enter Tryz.func9, Tryz.ntmps9
  go_wp2_with fail
  rw [HG8.out, hal]
  refine HBK.out.mono ?_
  rintro e w2 hb
  obtain ⟨B, rfl, hO⟩ := hb.2 snN rfl rfl
  have hO : One w1 B (bkD 7 26) w2 := hO
  have h2 : OneX w1 (fun _ => False) B (bkD 7 26) w2 := ⟨hO.1, by obtain ⟨p, hp, hd⟩ := hO.2; exact ⟨p, hp, hd, fun i f => f.elim⟩, fun i f => f.elim⟩
  have HX : Hid (∀ wx, Ch (fun _ => False) w1 wx → GeX wx H snN.ge) := Lib.hid fun wx k => HR.out.x.gr k
  obtain ⟨w3, hw3⟩ : ∃ w3, w3 = w2.alloc (.cells (madeCells #[.int .u8 0] 300) /-t-/5) := ⟨_, rfl⟩
  obtain ⟨b3, hb3⟩ : ∃ b3, b3 = w2.heap.size := ⟨_, rfl⟩
  have hmk : (Instr.makeSlice /-t-/24 (.int .i64 300) (.int .i64 300)).run Tryz.prog w2 = .ok (.slice (some ⟨w2.heap.size, 0, none⟩) 300 300) (w2.alloc (.cells (madeCells #[.int .u8 0] 300) /-t-/5)) := run_make_row' (P := Tryz.prog) 24 5 (.int .u8 0) 1 Tryz.underlying24 Tryz.info5 rfl .i64 .i64 300 (by omega) (by omega) w2
  rw [← hw3, ← hb3] at hmk
  have hc3 : Ch (fun _ => False) w2 w3 := by rw [hw3]; exact (Ch.refl _ w2).alloc _ _
  have hr3 : w3.rowIs b3 /-t-/5 300 (fun _ => .int .u8 0) := by rw [hw3, hb3]; exact World.rowIs_made w2 (.int .u8 0) 300 /-t-/5
  have hz3 : w3.heap.size = w2.heap.size + 1 := by rw [hw3]; exact Array.size_push _
  have h3 : OneX w1 (fun i => i = b3) B (bkD 7 26) w3 := h2.fresh hc3 fun i e => Or.inr ⟨by rw [e, hb3]; exact Nat.le_refl _, by rw [e, hb3]; omega⟩
  have hlo : w1.heap.size ≤ b3 := by rw [hb3]; exact hO.1.size
  have k4 : Ch (fun i => i = b3) w3 (w3.setCell ⟨b3, 299, none⟩ (.int .u8 9)) := (Ch.refl (fun i => i = b3) w3).setCell (p := ⟨b3, 299, none⟩) (Or.inl rfl) _
  have hr4 : (w3.setCell ⟨b3, 299, none⟩ (.int .u8 9)).rowIs b3 /-t-/5 300 (fun c => .int .u8 (snB c : Int)) := (hr3.set 299 (.int .u8 9)).congr fun c _ => by unfold snB; split <;> rfl
  have b0 : w3.cell? ⟨b3, 299, none⟩ = some (.int .u8 0) := hr3.cell (by decide)
  have f0 : w3.frozen? ⟨b3, 299, none⟩ = false := hr3.frozen 299
  obtain ⟨w4, hw4⟩ : ∃ w4, w4 = w3.setCell ⟨b3, 299, none⟩ (.int .u8 9) := ⟨_, rfl⟩
  rw [← hw4] at k4 hr4
  have h4 : OneX w1 (fun i => i = b3) B (bkD 7 26) w4 := h3.set k4 fun i e => ⟨e, by rw [e]; exact hlo⟩
  have r4 : RowV w4 (.slice (some ⟨b3, 0, none⟩) 300 300) 300 snB := rowIs_rowV hr4 (by decide) snB_b
  have hwr := (h4.snpWrite (vol := 7) (ep := 3) (no := 4) (n := snN) (a := 1) snN_ok (Nat.le_refl 1) ⟨by omega, by omega⟩ ⟨by omega, by omega⟩ ⟨by omega, by omega⟩ (by decide) r4 sn_lims.1.1 sn_lims.1.2 (by omega))
  rw [sn_nums.2.2.1, snAw.e1, sn_d1] at hwr
  have HWR := Lib.hid hwr
  have HR4 := Lib.hid r4
  have HW4 := Lib.hid hw4
  have HLO := Lib.hid hlo
  have HC4 := Lib.hid h4.ch
  clear hwr hb hO h2 h3 hc3 hr3 hz3 hlo k4 hr4 h4 r4 hw3 hb3 hw4 hsz hal
  go_upto_region 5 with fail
  rw [← HW4.out]
  clear b0 f0 hmk
  have x0 : w4.cell? ⟨H, 0, none⟩ = some (.int .i64 8) := (HX.out w4 HC4.out).x0
  have x1 : w4.cell? ⟨H, 1, none⟩ = some (.int .i64 1) := (HX.out w4 HC4.out).x1
  have x2 : w4.cell? ⟨H, 2, none⟩ = some (.int .i64 2) := (HX.out w4 HC4.out).x2
  have x3 : w4.cell? ⟨H, 3, none⟩ = some (.int .i64 1) := (HX.out w4 HC4.out).x3
  go_wp2_with fail
  rw [HG8.out]
  refine HWR.out.mono ?_
  rintro e w5 ⟨rfl, h5, k5⟩
  have HR5 := Lib.hid (HR4.out.ch' k5 fun q => q.2 rfl)
  have HF5 := Lib.hid (h5.fault snBad_ok.2.2 sn_lims.2.1.1 sn_lims.2.1.2 (by omega))
  have HBT := Lib.hid (built_sfa w5)
  clear h5 k5 x0 x1 x2 x3 HWR
  go_wp2_with (first
    | ((with_reducible refine wpList_isOp (.build 45 #[(0, .const (.int .i64 2)), (1, .const (.int .i64 24))]) rfl ?_); refine wpList_building _ rfl 45 #[(0, .const (.int .i64 2)), (1, .const (.int .i64 24))] rfl _ (by exact HBT.out) ?_)
    | fail)
  refine HF5.out.mono ?_
  rintro e w6 ⟨rfl, h6, k6⟩
  rw [sn_d2, ← opD_self snD2] at h6
  obtain ⟨fe, hfe⟩ : ∃ fe, fe = faultE snD1 snFa := ⟨_, rfl⟩
  rw [← hfe]
  have HR6 := Lib.hid (HR5.out.ch' k6 fun q => q.2 rfl)
  have hd2 : snD2.dead = false := snAw.on1.fine.qt.dead
  have hrd := (h6.snpRead (long := 300) (vol := 7) (no := 4) (n := snN) (a := 1) (by have := sn_lims.2.2.ops; omega) (by have := sn_lims.2.2.W; omega) hd2 snN_ok (Nat.le_refl 1) ⟨by omega, by omega⟩ ⟨by omega, by omega⟩ (by decide))
  rw [show ((300 : Nat) : Int) = 300 from rfl, show ((1 : Nat) : Int) = 1 from rfl] at hrd
  have HRD := Lib.hid hrd
  have H6 := Lib.hid h6
  have x0 : w6.cell? ⟨H, 0, none⟩ = some (.int .i64 8) := (HX.out w6 h6.ch).x0
  have x1 : w6.cell? ⟨H, 1, none⟩ = some (.int .i64 1) := (HX.out w6 h6.ch).x1
  have x2 : w6.cell? ⟨H, 2, none⟩ = some (.int .i64 2) := (HX.out w6 h6.ch).x2
  have x3 : w6.cell? ⟨H, 3, none⟩ = some (.int .i64 1) := (HX.out w6 h6.ch).x3
  clear hrd h6 k6 hfe hd2 HF5 HBT HR5
  go_wp2_with fail
  rw [HG8.out]
  refine HRD.out.mono ?_
  rintro e w7 ⟨c7, v7, k7, hc7, rfl, h7, kk7, hlo7, hres⟩
  obtain ⟨rfl, row7⟩ := sn_good hres
  obtain ⟨A7, C7, rfl, _⟩ := id row7
  have HR7 := Lib.hid (HR6.out.ch' kk7 fun q => q.2 rfl)
  have HSA := Lib.hid (same_any (some ⟨b3, 0, none⟩) A7 300 300 300 C7 snB snB w7 HR7.out row7)
  rw [show eqB 300 300 snB snB = true from eqB_self 300 snB] at HSA
  have H7 := Lib.hid h7
  have HC7 := Lib.hid hc7
  clear h7 kk7 hlo7 hres hc7 x0 x1 x2 x3 HRD HR6 row7
  go_wp2_with fail
  refine HSA.out.mono ?_
  rintro e w8 ⟨rfl, nq, rfl⟩
  obtain ⟨w8, hw8⟩ : ∃ w8, w8 = w7.drewN nq := ⟨_, rfl⟩
  rw [← hw8]
  have hc8 : Ch (fun _ => False) w7 w8 := by rw [hw8]; exact (Ch.refl _ w7).drewN nq
  have h8 := H7.out.gr hc8
  have hd2 : snD2.dead = false := snAw.on1.fine.qt.dead
  have hrd := (h8.snpRead (long := 300) (vol := 7) (no := 4) (n := snN) (a := 0) (by have h1 := sn_lims.2.2.ops; have h2 := HC7.out; rw [sn_nums.2.2.1] at h2; omega) (by have := sn_lims.2.2.W; omega) hd2 snN_ok (Nat.zero_le 1) ⟨by omega, by omega⟩ ⟨by omega, by omega⟩ (by decide))
  rw [show ((300 : Nat) : Int) = 300 from rfl, show ((0 : Nat) : Int) = 0 from rfl] at hrd
  have HRD := Lib.hid hrd
  have HC8 := Lib.hid h8.ch
  have x0 : w8.cell? ⟨H, 0, none⟩ = some (.int .i64 8) := (HX.out w8 h8.ch).x0
  have x1 : w8.cell? ⟨H, 1, none⟩ = some (.int .i64 1) := (HX.out w8 h8.ch).x1
  have x2 : w8.cell? ⟨H, 2, none⟩ = some (.int .i64 2) := (HX.out w8 h8.ch).x2
  have x3 : w8.cell? ⟨H, 3, none⟩ = some (.int .i64 1) := (HX.out w8 h8.ch).x3
  clear hrd h8 hd2 hc8 hw8 HSA
  go_wp2_with fail
  rw [HG8.out]
  refine HRD.out.mono ?_
  rintro e w9 ⟨c9, v9, k9, hc9, rfl, h9, kk9, hlo9, hres⟩
  obtain ⟨rfl, rfl⟩ := sn_none hres
  have HC9 := Lib.hid (HR.out.ch.trans h9.ch)
  clear h9 kk9 hlo9 hres hc9 x0 x1 x2 x3 HRD
  go_wp2
  go_ret
  exact ⟨rfl, HC9.out⟩
end Go.Proofs.YtlbdopcchoklhaaGreat
namespace Go.Proofs.YtlbdopcchoklhaaGreat
open Go.RowKit
set_option linter.unusedVariables false
set_option maxRecDepth 100000

/-! ### Owners -/
def ownN (n : Gn) (a : Nat) : Int := (n.ofA a : Int)
theorem own_copies (n : Gn) {a : Nat} (h : a < 4) : ownN n a = 0 := by unfold ownN Gn.ofA; rw [if_pos h]; rfl
theorem own_slots {n : Gn} (h : n.Ok) {m s : Nat} (hm : m < 2) (hs : s < n.W) : ownN n (4 + m * n.W + s) = 1 + (s : Int) := by
  have e : n.sec (1 + s) m = 4 + m * n.W + s := by
    unfold Gn.sec
    rw [if_neg (by omega), if_pos (by unfold Gn.fg; omega), Nat.add_sub_cancel_left]
  have := (Gn.of_sec h (i := 1 + s) (p := m) (by unfold Gn.grp Gn.fg; omega) (by unfold Gn.cnt; rw [if_neg (by omega), if_pos (by unfold Gn.fg; omega)]; exact hm)).1
  rw [e] at this
  unfold ownN
  rw [this]
  omega
theorem own_stripes {n : Gn} (h : n.Ok) {t x : Nat} (ht : t < 2 * n.S) (hx : x < n.q) : ownN n (n.fs + t * n.q + x) = 1 + (n.W : Int) + (t : Int) := by
  have e : n.sec (n.fg + t) x = n.fs + t * n.q + x := by
    unfold Gn.sec
    rw [if_neg (by unfold Gn.fg; omega), if_neg (by omega), Nat.add_sub_cancel_left]
  have := (Gn.of_sec h (i := n.fg + t) (p := x) (by unfold Gn.grp; omega) (by unfold Gn.cnt; rw [if_neg (by unfold Gn.fg; omega), if_neg (by omega)]; exact hx)).1
  rw [e] at this
  unfold ownN
  rw [this]
  unfold Gn.fg
  omega
theorem Nums.four (n : Gn) (w : World) : Nums w (w.alloc (.cells #[.int .i64 0, .int .i64 0, .int .i64 0, .int .i64 0] /-t-/3)) (.slice (some ⟨w.heap.size, 0, none⟩) 4 4) 4 (ownN n) := by
  have h := World.rowIs_alloc w #[.int .i64 0, .int .i64 0, .int .i64 0, .int .i64 0] /-t-/3 (fun a => .int .i64 (ownN n a)) (fun i hi => by
    have hi : i < 4 := hi
    show _ = some (Value.int .i64 (ownN n i))
    rw [own_copies n hi]
    match i, hi with
    | 0, _ => rfl
    | 1, _ => rfl
    | 2, _ => rfl
    | 3, _ => rfl)
  exact ⟨rowIs_owns h (Nat.le_refl _) (by unfold maxLen; omega), (Ch.refl _ w).alloc _ _⟩
theorem Nums.gx {w wr : World} {v : Value} {k H : Nat} {q : Nat → Int} {g : Ge} (h : Nums w wr v k q) (x : GeX w H g) : GeX wr H g := x.gr h.ch
theorem Nums.eq {w wr : World} {v : Value} {k l : Nat} {q : Nat → Int} (h : Nums w wr v k q) (e : k = l) : Nums w wr v l q := by subst e; exact h
def OwnPostG (n : Gn) (w : World) (e : Ending) (w' : World) : Prop := ∃ v, e = .returned v ∧ w'.ownsRow w.heap.size /-t-/3 1 v n.tot (numL n.tot (ownN n)) ∧ Ch (fun _ => False) w w'
set_option maxHeartbeats 3200000 in
set_option maxRecDepth 100000 in
theorem owners_any (n : Gn) (hn : n.Ok) (w : World) : Calls Tryz.prog 27 #[.agg (geC n.ge)] w (OwnPostG n w) := by
  obtain ⟨w1, H, hR⟩ := geR w n.ge
  obtain ⟨x0, x1, x2, x3⟩ := hR.x
  have HR := Lib.hid hR
  have HX := Lib.hid hR.x
  have HN := Lib.hid hn
  have HM := Lib.hid (ok_may hn)
  have bW := hn.w2
  have bS := hn.s2
  have bK := hn.k2
  have bM := hn.m2
  clear hR hn
  go_enter Tryz.func27, Tryz.ntmps27
  go_wp2_with ((with_reducible refine wpList_isOp (.box 23 (.tmp 0)) rfl ?_); refine wpList_boxing _ w1 rfl 23 (.tmp 0) rfl (geC n.ge) H rfl (by exact HR.out.sz) (by exact HR.out.al) ?_)
  refine (rgmay_any n.ge _).mono ?_
  rintro e w2 ⟨rfl, hc2⟩
  rw [HM.out]
  have HX2 := Lib.hid (HX.out.gr hc2)
  have HC2 := Lib.hid (HR.out.ch.trans hc2)
  have H4 := Lib.hid (Nums.four n w2)
  clear hc2
  go_wp2
  go_loopw [4, 5, 6] (fun v m _ wr => ∃ M : Nat, M ≤ 2 ∧ m = .int .i64 (M : Int) ∧ Hid (Nums w2 wr v (4 + M * n.W) (ownN n))) (fun _ m _ _ => 2 - (intOf m).toNat)
  case atStart => exact ⟨0, by omega, rfl, Lib.hid (H4.out.eq (by omega))⟩
  case round =>
    obtain ⟨M, hM, rfl, HK⟩ := hrel
    by_cases hlt : M < 2
    · have t1 : decide ((M : Int) < 2) = true := by simp; omega
      go_wp2
      go_loopw [4, 6] (fun v s wr => ∃ s' : Nat, s' ≤ n.W ∧ s = .int .i64 (s' : Int) ∧ Hid (Nums w2 wr v (4 + M * n.W + s') (ownN n))) (fun _ s _ => n.W - (intOf s).toNat)
      case atStart => exact ⟨0, Nat.zero_le _, rfl, HK⟩
      case round =>
        obtain ⟨s, hs, rfl, HS⟩ := hrel
        have hx := HS.out.gx HX2.out
        have y0 : wr.cell? ⟨H, 0, none⟩ = some (.int .i64 (n.W : Int)) := hx.x0
        by_cases hls : s < n.W
        · have t2 : decide (s < n.W) = true := decide_eq_true hls
          have hmw : M * n.W ≤ 512 := by
            have : M = 0 ∨ M = 1 := by omega
            rcases this with rfl | rfl <;> omega
          obtain ⟨g, cap, w9, hrun, h9⟩ := HS.out.app (by omega)
          have HRUN := Lib.hid hrun
          have HEQ := Lib.hid (show 1 + (s : Int) = ownN n (4 + M * n.W + s) from (own_slots HN.out hlt hls).symm)
          have H9 := Lib.hid h9
          clear hrun h9 hmw
          go_wp2_with (at_builtin; refine wpList_appI _ rfl (.tmp 24) (.tmp 27) rfl rfl _ _ (.slice (some ⟨g, 0, none⟩) (4 + M * n.W + s + 1) cap) w9 rfl rfl (HRUN.out _ HEQ.out) ?_)
          go_roundw
          case rel => exact ⟨s + 1, hls, by go_num, H9⟩
          case measure => simp [intOf]; omega
        · obtain rfl : s = n.W := by omega
          have HE := Lib.hid (HS.out.eq (show 4 + M * n.W + n.W = 4 + (M + 1) * n.W by rw [Nat.add_mul, Nat.one_mul, Nat.add_assoc]))
          clear HS
          go_wp2
          go_roundw
          case rel => exact ⟨M + 1, by omega, by go_num, HE⟩
          case measure => simp [intOf]; omega
    · obtain rfl : M = 2 := by omega
      have HF := Lib.hid (HK.out.eq (show 4 + 2 * n.W = n.fs + 0 * n.q by unfold Gn.fs; omega))
      clear HK
      rw [show ((2 : Nat) : Int) = 2 from rfl]
      go_wp2
      go_loopw [4, 7, 8] (fun v t _ wr => ∃ T : Nat, T ≤ 2 * n.S ∧ t = .int .i64 (T : Int) ∧ Hid (Nums w2 wr v (n.fs + T * n.q) (ownN n))) (fun _ t _ _ => 2 * n.S - (intOf t).toNat)
      case atStart => exact ⟨0, Nat.zero_le _, rfl, HF⟩
      case round =>
        obtain ⟨T, hT, rfl, HT⟩ := hrel
        have hx := HT.out.gx HX2.out
        have y1 : wr.cell? ⟨H, 1, none⟩ = some (.int .i64 (n.S : Int)) := hx.x1
        clear hx
        by_cases hlt : T < 2 * n.S
        · have t1 : decide ((T : Int) < 2 * (n.S : Int)) = true := decide_eq_true (by omega)
          have t1' : decide (T < 2 * n.S) = true := decide_eq_true hlt
          go_wp2
          go_loopw [4, 8] (fun v x wr => ∃ x' : Nat, x' ≤ n.q ∧ x = .int .i64 (x' : Int) ∧ Hid (Nums w2 wr v (n.fs + T * n.q + x') (ownN n))) (fun _ x _ => n.q - (intOf x).toNat)
          case atStart => exact ⟨0, Nat.zero_le _, rfl, HT⟩
          case round =>
            obtain ⟨x, hx0, rfl, HS⟩ := hrel
            have hx := HS.out.gx HX2.out
            have y0 : wr.cell? ⟨H, 0, none⟩ = some (.int .i64 (n.W : Int)) := hx.x0
            have y2 : wr.cell? ⟨H, 2, none⟩ = some (.int .i64 (n.K : Int)) := hx.x2
            have y3 : wr.cell? ⟨H, 3, none⟩ = some (.int .i64 (n.M : Int)) := hx.x3
            clear hx
            have hxb : x ≤ 24 := by have := HN.out.q2; omega
            have hq : n.q = n.K + n.M := rfl
            by_cases hls : x < n.q
            · have t2 : decide ((x : Int) < (n.K : Int) + (n.M : Int)) = true := decide_eq_true (by omega)
              have t2' : decide (x < n.K + n.M) = true := decide_eq_true (by omega)
              have hmw := Gn.stripe_lt (n := n) (s := T) (p := x) hlt hls
              have h768 := HN.out.t2
              have hfs := HN.out.fs2
              obtain ⟨g, cap, w9, hrun, h9⟩ := HS.out.app (by omega)
              have HRUN := Lib.hid hrun
              have HEQ := Lib.hid (show 1 + (n.W : Int) + (T : Int) = ownN n (n.fs + T * n.q + x) from (own_stripes HN.out hlt hls).symm)
              have H9 := Lib.hid h9
              have HLS := Lib.hid hls
              clear hrun h9 hmw h768 hfs hls hq
              go_wp2_with (at_builtin; refine wpList_appI _ rfl (.tmp 45) (.tmp 51) rfl rfl _ _ (.slice (some ⟨g, 0, none⟩) (n.fs + T * n.q + x + 1) cap) w9 rfl rfl (HRUN.out _ HEQ.out) ?_)
              go_roundw
              case rel => exact ⟨x + 1, HLS.out, by go_num, H9⟩
              case measure =>
                have := HLS.out
                simp [intOf]
                omega
            · obtain rfl : x = n.q := by omega
              have HE := Lib.hid (HS.out.eq (show n.fs + T * n.q + n.q = n.fs + (T + 1) * n.q by rw [Nat.add_mul, Nat.one_mul, Nat.add_assoc]))
              have t2 : decide (((n.q : Nat) : Int) < (n.K : Int) + (n.M : Int)) = false := decide_eq_false (by omega)
              have t2' : decide (n.q < n.K + n.M) = false := decide_eq_false (by omega)
              clear HS hq
              go_wp2
              go_roundw
              case rel => exact ⟨T + 1, by omega, by go_num, HE⟩
              case measure => simp [intOf]; omega
        · obtain rfl : T = 2 * n.S := by omega
          have HP := Lib.hid (HT.out.eq (show n.fs + 2 * n.S * n.q = n.tot by unfold Gn.tot; rw [Nat.mul_assoc]))
          have t1 : decide (((2 * n.S : Nat) : Int) < 2 * (n.S : Int)) = false := decide_eq_false (by omega)
          clear HT
          go_wp2
          go_ret
          exact ⟨_, rfl, ownsRow_low HP.out.own HC2.out.size, HC2.out.trans HP.out.ch⟩
end Go.Proofs.YtlbdopcchoklhaaGreat
