/-
  law11.awake, walked.
-/
import Derived.Test.YteleknojohnlbaaGreatMg50
import Derived.Lib.SlBytesConst
namespace Go.Proofs.YteleknojohnlbaaGreat
open Go.RowKit
set_option linter.unusedVariables false
set_option maxRecDepth 100000
set_option linter.unusedSimpArgs false

theorem rnext_same (R : Nat) (x : Rg) (w : World) (h : RgIs w R x) : Calls Tryz.prog 30 #[.pointer (some ⟨R, 0, none⟩)] w fun e w' => e = .returned (.int .i64 x.next) ∧ w = w' := by
  have x9 : w.cell? ⟨R, 9, none⟩ = some (.int .i64 x.next) := blk_cell h
  clear h
  go_enter Tryz.func30, Tryz.ntmps30
  go_wp2
  go_ret
  exact ⟨ret_int rfl, rfl⟩
theorem rchain_same (R : Nat) (x : Rg) (w : World) (h : RgIs w R x) : Calls Tryz.prog 31 #[.pointer (some ⟨R, 0, none⟩)] w fun e w' => e = .returned (.int .i64 x.chain) ∧ w = w' := by
  have x10 : w.cell? ⟨R, 10, none⟩ = some (.int .i64 x.chain) := blk_cell h
  clear h
  go_enter Tryz.func31, Tryz.ntmps31
  go_wp2
  go_ret
  exact ⟨ret_int rfl, rfl⟩
theorem quR {P : Program} {f : FuncId} {args : Array Value} {w : World} {k : Nat} {v : Value} (h : Calls P f args (w.drewN k) fun e w' => e = .returned v ∧ w.drewN k = w') : Calls P f args (w.drewN k) fun e w' => e = .returned v ∧ ∃ m, w' = w.drewN m :=
  h.mono fun _ _ ⟨he, hm⟩ => ⟨he, k, hm.symm⟩
theorem built_flR (a : Int) (w : World) : (Instr.build 48 #[(0, .int .i64 3), (1, .int .i64 a)]).run Tryz.prog w = .ok (.agg (faC (flR a))) w := run_build w _ _ _ (by kernel_rfl)
theorem aw_lims (B : Nat) : (Lim (bkD 7 26) 26 ∧ LimM (bkD 7 26) 26) ∧ (Lim (aw1 B).d 1690 ∧ LimM (aw1 B).d 1690) ∧ (Lim (aw2 B).d 3354 ∧ LimM (aw2 B).d 3354) ∧ Lim (aw3 B) 3355 := by
  have h0 := bkD_lims 7 26
  have h1 := appS_lim (x := awX B) (B := abcL) h0.1 h0.2
  have h2 := appS_lim (x := (aw1 B).x) (B := zerL) h1.1 h1.2
  exact ⟨h0, h1, h2, ((near_fault (aw2 B).d (flR 6)).lim h2.1 h2.2).1⟩
theorem abc_row (w : World) : RowV (w.alloc (.cells #[.int .u8 97, .int .u8 98, .int .u8 99] /-t-/5 (3, 4))) (.slice (some ⟨w.heap.size, 0, none⟩) 3 3) 3 (Cod.litZ abcL) := lit_row w [97, 98, 99] 3 (3, 4) rfl (by decide) (by omega)
theorem zer_row (w : World) : RowV (w.alloc (.cells (madeCells #[.int .u8 0] 450) /-t-/5)) (.slice (some ⟨w.heap.size, 0, none⟩) 450 450) 450 (Cod.litZ zerL) := by
  refine rowIs_rowV ((World.rowIs_made w (.int .u8 0) 450 /-t-/5).congr fun i hi => ?_) (by omega) (fun c hc => ?_)
  · have : Cod.litZ zerL i = 0 := by unfold Cod.litZ zerL; rw [List.getD_eq_getElem?_getD, List.getElem?_replicate]; split <;> rfl
    rw [this]; rfl
  · have : Cod.litZ zerL c = 0 := by unfold Cod.litZ zerL; rw [List.getD_eq_getElem?_getD, List.getElem?_replicate]; split <;> rfl
    rw [this]; omega
theorem two_rows {M : List Bv} {a b : List Nat} (h : M.map Bv.B = [a, b]) : ∃ m0 m1, M = [m0, m1] ∧ m0.B = a ∧ m1.B = b := by
  cases M with
  | nil => cases h
  | cons m0 M =>
    cases M with
    | nil => cases h
    | cons m1 M =>
      cases M with
      | nil => injection h with h1 h2; injection h2 with h2 _; exact ⟨m0, m1, rfl, h1, h2⟩
      | cons m2 M => cases h
theorem fol_ok {m : Mi} {start : Nat} {chain : Int} {w w' : World} {e : Ending} {P : List Pn} {tl : Tl} {ep : Int} (h : FolPost m start chain w e w') (h1 : allI m start chain = (P, false)) (h2 : tailR (sumM m) P (start : Int) chain = tl) (h3 : epR P = ep) : ∃ V, e = .returned (.tuple #[V, .int .i64 0]) ∧ TailV w w' tl ep V ∧ Ch (fun _ => False) w w' := by
  obtain ⟨V, rfl, hV, hc⟩ := h
  rw [h1] at hV ⊢
  refine ⟨V, rfl, ?_, hc⟩
  have hV' : TailV w w' (tailR (sumM m) P (start : Int) chain) (epR P) V := hV
  rw [h2, h3] at hV'
  exact hV'
theorem fol_bad {m : Mi} {start : Nat} {chain : Int} {w w' : World} {e : Ending} (h : FolPost m start chain w e w') (h1 : (allI m start chain).2 = true) : ∃ V, e = .returned (.tuple #[V, .int .i64 22]) ∧ TailV w w' tl0 0 V ∧ Ch (fun _ => False) w w' := by
  obtain ⟨V, rfl, hV, hc⟩ := h
  rw [h1] at hV ⊢
  exact ⟨V, rfl, hV, hc⟩
theorem aw1_def (B : Nat) : appS (awX B) abcL (bkD 7 26) = aw1 B := rfl
theorem aw3_def (B : Nat) : faultD (aw2 B).d (flR 6) = aw3 B := rfl
theorem aw2_def (B : Nat) : appS (aw1 B).x zerL (aw1 B).d = aw2 B := rfl
set_option maxHeartbeats 12800000 in
set_option maxRecDepth 100000 in
theorem rawake_any (w : World) : Calls Tryz.prog 11 #[] w (Ans (.bool true) w) := by
  have hG8 : (#[.int .i64 8, .int .i64 1, .int .i64 2, .int .i64 1] : Array Value) = geC awG.ge := rfl
  obtain ⟨w1, H, hR⟩ := geR w awG.ge
  have hal := hR.al
  have hsz := hR.sz
  have HR := Lib.hid hR
  have HBK := Lib.hid ((lawBlank_any 7 awG.ge w1 ⟨by omega, by omega⟩))
  have HG8 := Lib.hid hG8
  clear hR hG8
  go_enter Tryz.func11, Tryz.ntmps11
  go_wp2_with fail
  rw [HG8.out, hal]
  refine HBK.out.mono ?_
  rintro e w2 hb
  obtain ⟨B, rfl, hO⟩ := hb.2 awG rfl rfl
  have hO : One w1 B (bkD 7 26) w2 := hO
  have HO := Lib.hid hO
  have HX : Hid (∀ wx, Ch (fun _ => False) w1 wx → GeX wx H awG.ge) := Lib.hid fun wx k => HR.out.x.gr k
  have x0 : w2.cell? ⟨H, 0, none⟩ = some (.int .i64 8) := (HX.out w2 hO.ch).x0
  have x1 : w2.cell? ⟨H, 1, none⟩ = some (.int .i64 1) := (HX.out w2 hO.ch).x1
  have x2 : w2.cell? ⟨H, 2, none⟩ = some (.int .i64 2) := (HX.out w2 hO.ch).x2
  have x3 : w2.cell? ⟨H, 3, none⟩ = some (.int .i64 1) := (HX.out w2 hO.ch).x3
  clear hal hsz hO hb HBK
  go_wp2_with fail
  rw [HG8.out]
  refine (rgNew_any B 7 awG.ge 1 0 0 0 w2).mono ?_
  rintro e w3 hn
  obtain ⟨R, rfl, hR1, hR2, hR3⟩ : ∃ R, e = .returned (.tuple #[.pointer (some ⟨R, 0, none⟩), .int .i64 0]) ∧ w2.heap.size ≤ R ∧ RgIs w3 R (awX B) ∧ Ch (fun _ => False) w2 w3 := hn
  have h3 := RgW.start HO.out hR3 hR2 hR1 rfl
  obtain ⟨w4, hw4⟩ : ∃ w4, w4 = w3.alloc (.cells #[.int .u8 97, .int .u8 98, .int .u8 99] /-t-/5 (3, 4)) := ⟨_, rfl⟩
  obtain ⟨b4, hb4⟩ : ∃ b4, b4 = w3.heap.size := ⟨_, rfl⟩
  have hc4 : Ch (fun _ => False) w3 w4 := by rw [hw4]; exact (Ch.refl _ w3).allocO _
  have hz4 : w4.heap.size = w3.heap.size + 1 := by rw [hw4]; exact Array.size_push _
  have h4 : RgW w1 (fun i => i = b4) B R (bkD 7 26) (awX B) w4 := h3.own hc4 (fun _ f => f.elim) (fun i e => Or.inr (by rw [e, hb4]; omega))
  have r4 : RowV w4 (.slice (some ⟨b4, 0, none⟩) 3 3) 3 (Cod.litZ abcL) := by rw [hw4, hb4]; exact abc_row w3
  have HA4 := Lib.hid (h4.append (Bt := abcL) (t := 26) rfl (awX_ok B) r4 abc_b (fun b o n C e q => q.2 (by injection e with e; injection e with e; injection e with e; exact e.symm)) (aw_lims B).1.1 (aw_lims B).1.2 (by omega))
  have HW4 := Lib.hid hw4
  have HB4 := Lib.hid hb4
  have kc := fun (w : World) (C : Array Value) (n c : Nat) => Lib.run_convert_bytes_const (P := Tryz.prog) w /-t-/24 /-t-/5 C n c Tryz.underlying24 Tryz.underlying5
  clear hR1 hR2 hR3 h3 hw4 hb4 hc4 hz4 h4 r4 x0 x1 x2 x3
  go_wp2_with fail
  rw [← HW4.out, ← HB4.out]
  refine HA4.out.mono ?_
  rintro e w5 ⟨rfl, h5, _⟩
  obtain ⟨D, T, hAW⟩ := aw_all B
  rw [aw1_def] at h5 ⊢
  rw [hAW.e1]
  have HAW := Lib.hid hAW
  have hmk : (Instr.makeSlice /-t-/24 (.int .i64 450) (.int .i64 450)).run Tryz.prog w5 = .ok (.slice (some ⟨w5.heap.size, 0, none⟩) 450 450) (w5.alloc (.cells (madeCells #[.int .u8 0] 450) /-t-/5)) := by
    obtain ⟨i0, hi, hz0, hz1, hz2⟩ := info_parts Tryz.info5
    have := run_make (P := Tryz.prog) w5 /-t-/24 /-t-/5 i0 (.int .u8 0) Tryz.underlying24 hi hz0 .i64 .i64 450 450 (by omega) (by omega) (by rw [hz2]; omega) (by omega)
    rw [hz1] at this
    exact this
  obtain ⟨w6, hw6⟩ : ∃ w6, w6 = w5.alloc (.cells (madeCells #[.int .u8 0] 450) /-t-/5) := ⟨_, rfl⟩
  obtain ⟨b6, hb6⟩ : ∃ b6, b6 = w5.heap.size := ⟨_, rfl⟩
  have hc6 : Ch (fun _ => False) w5 w6 := by rw [hw6]; exact (Ch.refl _ w5).alloc _ _
  have hz6 : w6.heap.size = w5.heap.size + 1 := by rw [hw6]; exact Array.size_push _
  have h6 : RgW w1 (fun i => i = b6) B R (aw1 B).d (aw1 B).x w6 := h5.own hc6 (fun _ f => f.elim) (fun i e => Or.inr (by rw [e, hb6]; omega))
  have r6 : RowV w6 (.slice (some ⟨b6, 0, none⟩) 450 450) 450 (Cod.litZ zerL) := by rw [hw6, hb6]; exact zer_row w5
  have HA6 := Lib.hid (h6.append (Bt := zerL) (t := 1690) zer_len.symm hAW.ok1 r6 zer_b (fun b o n C e q => q.2 (by injection e with e; injection e with e; injection e with e; exact e.symm)) (aw_lims B).2.1.1 (aw_lims B).2.1.2 (by omega))
  rw [← hw6, ← hb6] at hmk
  clear hAW h5 hw6 hb6 hc6 hz6 h6 r6 HA4 HW4 HB4
  go_wp2_with fail
  refine HA6.out.mono ?_
  rintro e w7 ⟨rfl, h7, _⟩
  rw [aw2_def] at h7 ⊢
  rw [HAW.out.e2]
  have hl7 := (aw_lims B).2.2.1
  obtain ⟨d7, hd7⟩ : ∃ d7, d7 = (aw2 B).d := ⟨_, rfl⟩
  have h3d : aw3 B = faultD d7 (flR 6) := by rw [hd7]; rfl
  rw [← hd7] at h7 hl7
  have hf6 : FaOk (flR 6) := flR_ok (by unfold I64; omega)
  have HF7 := Lib.hid (h7.call (d' := faultD d7 (flR 6)) (r := .int .i64 (faultE d7 (flR 6))) (F := 28) (args := #[.pointer (some ⟨B, 0, none⟩), .agg (faC (flR 6))]) fun p hp h => by
    subst hp
    exact fault_any _ p d7 (flR 6) 3354 w7 h hf6 hl7.1 hl7.2 (by omega))
  have HBT := Lib.hid (built_flR 6 w7)
  clear h7 hmk HA6 hl7 hf6
  go_wp2_with (first
    | ((with_reducible refine wpList_isOp (.build 48 #[(0, .const (.int .i64 3)), (1, .const (.int .i64 6))]) rfl ?_); refine wpList_building _ rfl 48 #[(0, .const (.int .i64 3)), (1, .const (.int .i64 6))] rfl _ (by exact HBT.out) ?_)
    | fail)
  refine HF7.out.mono ?_
  rintro e w8 ⟨rfl, h8, _⟩
  obtain ⟨fe, hfe⟩ : ∃ fe, fe = faultE d7 (flR 6) := ⟨_, rfl⟩
  rw [← hfe]
  rw [← h3d] at h8
  have HL8 := Lib.hid (h8.load awG_ok (t := 3355) (aw_lims B).2.2.2 (by omega))
  have x0 : w8.cell? ⟨H, 0, none⟩ = some (.int .i64 8) := (HX.out w8 h8.ch).x0
  have x1 : w8.cell? ⟨H, 1, none⟩ = some (.int .i64 1) := (HX.out w8 h8.ch).x1
  have x2 : w8.cell? ⟨H, 2, none⟩ = some (.int .i64 2) := (HX.out w8 h8.ch).x2
  have x3 : w8.cell? ⟨H, 3, none⟩ = some (.int .i64 1) := (HX.out w8 h8.ch).x3
  clear h8 hfe HF7 HBT hd7 h3d
  go_wp2_with fail
  rw [HG8.out]
  refine HL8.out.mono ?_
  rintro e w9 ⟨B0, B1, rfl, ha0, ha1, h9, _⟩
  have hmi : MiIs w9 (miOf 7 awG (aw3 B) (some ⟨B0, 0, none⟩) (some ⟨B1, 0, none⟩) awG.W awG.W) := mi_is awG_ok ⟨by omega, by omega⟩ ha0 ha1
  have hlm := logM_of HAW.out.fine.qt awG_ok (by decide) (show 0 ≤ (7 : Int) ∧ (7 : Int) ≤ 4294967295 by omega) HAW.out.log (some ⟨B0, 0, none⟩) (some ⟨B1, 0, none⟩) awG.W awG.W
  obtain ⟨m, hm⟩ : ∃ m, m = miOf 7 awG (aw3 B) (some ⟨B0, 0, none⟩) (some ⟨B1, 0, none⟩) awG.W awG.W := ⟨_, rfl⟩
  rw [← hm] at hmi hlm
  have hmA0 : m.A 0 = some ⟨B0, 0, none⟩ := by rw [hm]; rfl
  have hmA1 : m.A 1 = some ⟨B1, 0, none⟩ := by rw [hm]; rfl
  have hmC0 : m.C 0 = awG.W := by rw [hm]; rfl
  have hmC1 : m.C 1 = awG.W := by rw [hm]; rfl
  have hmv : m.vol = 7 := by rw [hm]; rfl
  have hmg : m.g = awG := by rw [hm]; rfl
  have hF9 := rfollow_yes m 0 0 w9 hmi (by omega) ⟨by omega, by omega⟩
  rw [hmA0, hmA1, hmC0, hmC1, hmv, hmg] at hF9
  have HF9 := Lib.hid hF9
  have HT9 := Lib.hid (HAW.out.told m hlm hmv hmg)
  clear hm hmA0 hmA1 hmC0 hmC1 hmv hmg hF9
  have H9 := Lib.hid h9
  have y0 : w9.cell? ⟨H, 0, none⟩ = some (.int .i64 8) := (HX.out w9 h9.ch).x0
  have y1 : w9.cell? ⟨H, 1, none⟩ = some (.int .i64 1) := (HX.out w9 h9.ch).x1
  have y2 : w9.cell? ⟨H, 2, none⟩ = some (.int .i64 2) := (HX.out w9 h9.ch).x2
  have y3 : w9.cell? ⟨H, 3, none⟩ = some (.int .i64 1) := (HX.out w9 h9.ch).x3
  clear ha0 ha1 h9 hmi hlm x0 x1 x2 x3 HL8
  go_wp2_with fail
  rw [HG8.out]
  refine HF9.out.mono ?_
  rintro e w10 hfol
  obtain ⟨V, rfl, hV, hc10⟩ := fol_ok hfol HT9.out.1 HT9.out.2 HAW.out.ep
  obtain ⟨A2, C2, M, rfl, hM, hRO⟩ := hV
  obtain ⟨m0, m1, rfl, hm0, hm1⟩ := two_rows hM
  have hrd := hRO.read (by show 2 ≤ _; omega)
  obtain ⟨b, o, rfl, hcs⟩ := hrd.at' (by show 0 < 2; omega)
  obtain ⟨hv0, _⟩ := hrd.rows m0 List.mem_cons_self
  obtain ⟨hv1, _⟩ := hrd.rows m1 (List.mem_cons_of_mem _ List.mem_cons_self)
  have q0 := hcs 0 m0 rfl 0 m0.V rfl
  have q1 := hcs 1 m1 rfl 0 m1.V rfl
  rw [show elB.B m0 = abcL from hm0] at hv0
  rw [show elB.B m1 = zerL from hm1] at hv1
  obtain ⟨A3, C3, e3, _⟩ := id hv0
  obtain ⟨A4, C4, e4, _⟩ := id hv1
  rw [show elB.V m0 = m0.V from rfl] at e3 hv0
  rw [show elB.V m1 = m1.V from rfl] at e4
  rw [e3] at q0 hv0
  rw [e4, zer_len] at q1
  have q0 : w10.cell? ⟨b, o, none⟩ = some (.slice A3 3 C3) := q0
  have q1 : w10.cell? ⟨b, o + 1, none⟩ = some (.slice A4 450 C4) := q1
  obtain ⟨cc, hcc⟩ : ∃ cc, cc = (aw2 B).x.chain := ⟨_, rfl⟩
  obtain ⟨v, hv⟩ : ∃ v, v = Value.slice (some ⟨b, o, none⟩) 2 C2 := ⟨_, rfl⟩
  obtain ⟨wz, wx, G, hVT⟩ := varTl ⟨[abcL, zerL], 4, cc⟩ 1 (v := v) ⟨_, _, _, hv⟩ w10
  have t0 : wx.cell? ⟨G, 0, none⟩ = some v := blk_cell hVT.cx
  have t1 : wx.cell? ⟨G, 1, none⟩ = some (.int .i64 4) := blk_cell hVT.cx
  have t2 : wx.cell? ⟨G, 2, none⟩ = some (.int .i64 cc) := blk_cell hVT.cx
  have t3 : wx.cell? ⟨G, 3, none⟩ = some (.int .i64 1) := blk_cell hVT.cx
  have q0 := hVT.ch.cell q0 (fun f => f)
  have q1 := hVT.ch.cell q1 (fun f => f)
  have hrw := hv0.gr hVT.ch
  have hcv : ∀ q, (convert /-t-/24 /-t-/9 (.slice A3 3 C3)).run Tryz.prog (wx.drewN q) = .ok (.string { data := #[97, 98, 99] }) (wx.drewN q) := fun q => row_text (hrw.drewN q)
  have hrg := (H9.out.gr hc10).gr hVT.ch
  have HNX := Lib.hid (fun n => rnext_same R (aw2 B).x (wx.drewN n) (hrg.rg.gr ((Ch.refl _ wx).drewN n)))
  have HCH := Lib.hid (fun n => rchain_same R (aw2 B).x (wx.drewN n) (hrg.rg.gr ((Ch.refl _ wx).drewN n)))
  rw [HAW.out.next] at HNX
  rw [← hcc] at HCH ⊢
  have HCF := Lib.hid (HR.out.ch.trans hrg.ch)
  have HVT := Lib.hid hVT
  rw [show (Value.slice (some ⟨b, o, none⟩) [m0, m1].length C2) = v from hv.symm]
  rw [hv] at t0 ⊢
  rw [hv] at HVT
  clear hfol hM hRO hm0 hm1 hrd hcs hv0 hv1 e3 e4 hcc hVT hrw hrg y0 y1 y2 y3 HF9 HT9 H9 HAW hc10 hv
  go_wp2_with (first
    | ((with_reducible refine wpList_isOp (.alloc 40) rfl ?_); refine wpList_making _ wz rfl 40 rfl (tlC tl0 0 (.slice none 0 0)) G (zero_tl _) (by exact HVT.out.sz) (by exact HVT.out.al) ?_)
    | ((with_reducible refine wpList_isOp (.store 40 (.tmp 9) (.tmp 41)) rfl ?_); refine wpList_storing _ wx rfl 40 (.tmp 9) (.tmp 41) rfl (.agg (tlC ⟨[abcL, zerL], 4, cc⟩ 1 (.slice (some ⟨b, o, none⟩) 2 C2))) ⟨G, 0, none⟩ rfl rfl (by exact HVT.out.st) ?_)
    | fail)
  go_quiet (first
    | (go_at_call 30; exact quR (HNX.out _))
    | (go_at_call 31; exact quR (HCH.out _)))
  go_wp2
  go_ret
  exact ⟨rfl, HCF.out.drewN _⟩
#print axioms rawake_any
end Go.Proofs.YteleknojohnlbaaGreat
