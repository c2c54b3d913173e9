/-
  GeoNext, walked.
-/
import Derived.Test.YtfbkfchibfiemaaGeoW
import Derived.Deep.DeepCutAuto
namespace Go.Proofs.Ytfbkfchibfiemaa
open Go.RowKit
set_option linter.unusedVariables false
set_option maxRecDepth 100000

def nxG (n : Gn) (i : Nat) : Ge := if i = 0 then ⟨(n.W : Int) + 1, n.S, n.K, n.M⟩ else if i = 1 then ⟨n.W, (n.S : Int) + 1, n.K, n.M⟩ else ⟨n.W, n.S, (n.K : Int) + 1, n.M⟩
def nxB (n : Gn) (i : Nat) : Int := if i = 0 then 2 else if i = 1 then 2 * ((n.K : Int) + (n.M : Int)) else 2 * (n.S : Int)
def nxP (i : Nat) : Int := if i = 0 then 1 else if i = 1 then 2 else 0
theorem nx_tot {n : Gn} (h : n.Ok) {i : Nat} (hi : i < 3) (m : mayG (nxG n i) = true) : totG (nxG n i) = totG n.ge + nxB n i ∧ grpG (nxG n i) = grpG n.ge + nxP i := by
  unfold totG grpG
  rw [m, ok_may h, if_pos rfl, if_pos rfl, if_pos rfl, if_pos rfl]
  have hc : i = 0 ∨ i = 1 ∨ i = 2 := by omega
  rcases hc with rfl | rfl | rfl
  · unfold nxG nxB nxP Gn.ge
    simp only [if_true]
    omega
  · unfold nxG nxB nxP Gn.ge
    simp only [if_true, if_false, Nat.one_ne_zero, Int.add_mul, Int.one_mul]
    omega
  · unfold nxG nxB nxP Gn.ge
    simp only [if_false, Nat.reduceEqDiff, Int.mul_add, Int.mul_one, show ¬ (2 = 0) by omega]
    omega
theorem nxB_le {n : Gn} (h : n.Ok) (i : Nat) : 0 ≤ nxB n i ∧ nxB n i ≤ 100 := by
  have := h.k2
  have := h.m2
  have := h.s2
  unfold nxB
  split
  · omega
  · split <;> omega
theorem nxP_le (i : Nat) : 0 ≤ nxP i ∧ nxP i ≤ 2 := by
  unfold nxP
  split
  · omega
  · split <;> omega
/-- The copies of any that may be. -/
theorem copies_of {g : Ge} (m : mayG g = true) : cntG g 0 = 4 ∧ eqI 4 4 (secG g 0) (listI [0, 1, 2, 3]) = true := by
  obtain ⟨n, hn, rfl⟩ := may_nat m
  have h0 : 0 < n.grp := by unfold Gn.grp Gn.fg; omega
  refine ⟨cntG_ok (j := 0) hn h0, decide_eq_true ⟨rfl, fun c hc => ?_⟩⟩
  rw [show secG n.ge 0 c = ((n.sec 0 c : Nat) : Int) from secG_ok n 0 c]
  match c, hc with
  | 0, _ => rfl
  | 1, _ => rfl
  | 2, _ => rfl
  | 3, _ => rfl
#print axioms nx_tot
#print axioms copies_of
set_option maxHeartbeats 6400000 in
set_option maxRecDepth 100000 in
theorem geoNext_may (n : Gn) (hn : n.Ok) (w : World) : Calls Try.prog 6 #[.agg (geC n.ge)] w (Told w) := by
  obtain ⟨w1, H, hR⟩ := geR w n.ge
  have HR := Lib.hid hR
  have HX1 := Lib.hid hR.x
  have HM := Lib.hid (ok_may hn)
  have HN := Lib.hid hn
  have bW := hn.w2
  have bS := hn.s2
  have bK := hn.k2
  have bM := hn.m2
  clear hR hn
  go_enter Try.func6, Try.ntmps6
  go_wp2_with ((with_reducible refine wpList_isOp (.box 23 (.tmp 0)) rfl ?_); refine wpList_boxing _ w1 rfl 23 (.tmp 0) rfl (geC n.ge) H rfl (by exact HR.out.sz) (by exact HR.out.al) ?_)
  refine (gawake_any _).mono ?_
  rintro e w2 ⟨rfl, hc2⟩
  have HX2 := Lib.hid (HX1.out.gr hc2)
  have HC2 := Lib.hid (HR.out.ch.trans hc2)
  have hx := HX2.out
  obtain ⟨x0, x1, x2, x3⟩ := hx
  clear hc2
  go_wp2_with fail
  refine (gmay_any n.ge _).mono ?_
  rintro e w3 ⟨rfl, hc3⟩
  rw [HM.out]
  have HX3 := Lib.hid (HX2.out.gr hc3)
  have HC3 := Lib.hid (HC2.out.trans hc3)
  have y0 : w3.cell? ⟨H, 0, none⟩ = some (.int .i64 (n.W : Int)) := HX3.out.x0
  have y1 : w3.cell? ⟨H, 1, none⟩ = some (.int .i64 (n.S : Int)) := HX3.out.x1
  have y2 : w3.cell? ⟨H, 2, none⟩ = some (.int .i64 (n.K : Int)) := HX3.out.x2
  have y3 : w3.cell? ⟨H, 3, none⟩ = some (.int .i64 (n.M : Int)) := HX3.out.x3
  clear hc3 x0 x1 x2 x3
  go_upto_region 5 with fail
  have hw4 : ∃ w4, w3.alloc (.cells #[.int .i64 ((n.W : Int) + 1), .int .i64 (n.S : Int), .int .i64 (n.K : Int), .int .i64 (n.M : Int), .int .i64 (n.W : Int), .int .i64 ((n.S : Int) + 1), .int .i64 (n.K : Int), .int .i64 (n.M : Int), .int .i64 (n.W : Int), .int .i64 (n.S : Int), .int .i64 ((n.K : Int) + 1), .int .i64 (n.M : Int)] 23) = w4 := ⟨_, rfl⟩
  obtain ⟨w4, hw4⟩ := hw4
  rw [hw4]
  have hc4 : Ch (fun _ => False) w3 w4 := by rw [← hw4]; exact (Ch.refl _ w3).alloc _ _
  have HMO := Lib.hid (show ∀ k, k < 3 → w4.cell? ⟨w3.heap.size, k * 4, none⟩ = some (.int .i64 (nxG n k).wal) ∧ w4.cell? ⟨w3.heap.size, k * 4 + 1, none⟩ = some (.int .i64 (nxG n k).st) ∧ w4.cell? ⟨w3.heap.size, k * 4 + 2, none⟩ = some (.int .i64 (nxG n k).k) ∧ w4.cell? ⟨w3.heap.size, k * 4 + 3, none⟩ = some (.int .i64 (nxG n k).m) from fun k hk => by
    have hg := heap_alloc_new w3 (.cells #[.int .i64 ((n.W : Int) + 1), .int .i64 (n.S : Int), .int .i64 (n.K : Int), .int .i64 (n.M : Int), .int .i64 (n.W : Int), .int .i64 ((n.S : Int) + 1), .int .i64 (n.K : Int), .int .i64 (n.M : Int), .int .i64 (n.W : Int), .int .i64 (n.S : Int), .int .i64 ((n.K : Int) + 1), .int .i64 (n.M : Int)] 23)
    rw [hw4] at hg
    rw [blk_cell hg, blk_cell hg, blk_cell hg, blk_cell hg]
    match k, hk with
    | 0, _ => exact ⟨rfl, rfl, rfl, rfl⟩
    | 1, _ => exact ⟨rfl, rfl, rfl, rfl⟩
    | 2, _ => exact ⟨rfl, rfl, rfl, rfl⟩)
  obtain ⟨Mb, hMb⟩ : ∃ Mb, Mb = w3.heap.size := ⟨_, rfl⟩
  rw [← hMb] at HMO ⊢
  have HX4 := Lib.hid (HX3.out.gr hc4)
  have HC4 := Lib.hid (HC3.out.trans hc4)
  have z1 : w4.cell? ⟨H, 1, none⟩ = some (.int .i64 (n.S : Int)) := HX4.out.x1
  have z2 : w4.cell? ⟨H, 2, none⟩ = some (.int .i64 (n.K : Int)) := HX4.out.x2
  have z3 : w4.cell? ⟨H, 3, none⟩ = some (.int .i64 (n.M : Int)) := HX4.out.x3
  clear hw4 hMb hc4 y0 y1 y2 y3
  go_upto_region 6 with fail
  have hw5 : ∃ w5, w4.alloc (.cells #[.int .i64 2, .int .i64 (2 * ((n.K : Int) + (n.M : Int))), .int .i64 (2 * (n.S : Int))] /-t-/3) = w5 := ⟨_, rfl⟩
  obtain ⟨w5, hw5⟩ := hw5
  rw [hw5]
  have hc5 : Ch (fun _ => False) w4 w5 := by rw [← hw5]; exact (Ch.refl _ w4).alloc _ _
  have HBY := Lib.hid (show ∀ k, k < 3 → w5.cell? ⟨w4.heap.size, k, none⟩ = some (.int .i64 (nxB n k)) from fun k hk => by
    have hg := heap_alloc_new w4 (.cells #[.int .i64 2, .int .i64 (2 * ((n.K : Int) + (n.M : Int))), .int .i64 (2 * (n.S : Int))] /-t-/3)
    rw [hw5] at hg
    rw [blk_cell hg]
    match k, hk with
    | 0, _ => rfl
    | 1, _ => rfl
    | 2, _ => rfl)
  obtain ⟨Bb, hBb⟩ : ∃ Bb, Bb = w4.heap.size := ⟨_, rfl⟩
  rw [← hBb] at HBY ⊢
  clear hw5 hBb z1 z2 z3
  go_upto_region 7 with fail
  have hw6 : ∃ w6, w5.alloc (.cells #[.int .i64 1, .int .i64 2, .int .i64 0] /-t-/3) = w6 := ⟨_, rfl⟩
  obtain ⟨w6, hw6⟩ := hw6
  rw [hw6]
  have hc6 : Ch (fun _ => False) w5 w6 := by rw [← hw6]; exact (Ch.refl _ w5).alloc _ _
  have HGP := Lib.hid (show ∀ k, k < 3 → w6.cell? ⟨w5.heap.size, k, none⟩ = some (.int .i64 (nxP k)) from fun k hk => by
    have hg := heap_alloc_new w5 (.cells #[.int .i64 1, .int .i64 2, .int .i64 0] /-t-/3)
    rw [hw6] at hg
    rw [blk_cell hg]
    match k, hk with
    | 0, _ => rfl
    | 1, _ => rfl
    | 2, _ => rfl)
  obtain ⟨Pb, hPb⟩ : ∃ Pb, Pb = w5.heap.size := ⟨_, rfl⟩
  rw [← hPb] at HGP ⊢
  have HK6 := Lib.hid (hc5.trans hc6)
  have HK5 := Lib.hid hc6
  clear hw6 hPb hc5 hc6
  go_wp2
  go_loopw [7, 8, 9] (fun x _ _ wr => ∃ k : Nat, k ≤ 3 ∧ x = .int .i64 (k : Int) ∧ Hid (Ch (fun _ => False) w6 wr)) (fun x _ _ _ => 3 - (intOf x).toNat)
  case atStart => exact ⟨0, by omega, rfl, Lib.hid (Ch.refl _ _)⟩
  case round =>
    obtain ⟨k, hk, rfl, HK⟩ := hrel
    by_cases hlt : k < 3
    · obtain ⟨m0, m1, m2, m3⟩ := HMO.out k hlt
      have hkk := HK6.out.trans HK.out
      have m0' := hkk.cell m0 (fun q => q)
      have m1' := hkk.cell m1 (fun q => q)
      have m2' := hkk.cell m2 (fun q => q)
      have m3' := hkk.cell m3 (fun q => q)
      have t1 : decide ((k : Int) < 3) = true := by simp; omega
      have i1 : (0 : Int) ≤ (k : Int) := Int.natCast_nonneg _
      have i2 : (k : Int) < 3 := by omega
      clear m0 m1 m2 m3 hkk
      obtain ⟨F, hF⟩ : ∃ F, F = nxG n k := ⟨_, rfl⟩
      have HF := Lib.hid hF
      rw [← hF] at m0' m1' m2' m3'
      clear hF
      obtain ⟨b, hb⟩ : ∃ b, b = nxB n k := ⟨_, rfl⟩
      obtain ⟨p, hp⟩ : ∃ p, p = nxP k := ⟨_, rfl⟩
      obtain ⟨T0, hT0⟩ : ∃ T, T = totG n.ge := ⟨_, rfl⟩
      obtain ⟨G0, hG0⟩ : ∃ G, G = grpG n.ge := ⟨_, rfl⟩
      have HTF := Lib.hid (show mayG F = true → totG F = T0 + b ∧ grpG F = G0 + p from fun m => by
        rw [HF.out] at m ⊢
        rw [hb, hp, hT0, hG0]
        exact nx_tot HN.out hlt m)
      have b1 : 0 ≤ b := by rw [hb]; exact (nxB_le HN.out k).1
      have b2 : b ≤ 100 := by rw [hb]; exact (nxB_le HN.out k).2
      have p1 : 0 ≤ p := by rw [hp]; exact (nxP_le k).1
      have p2 : p ≤ 2 := by rw [hp]; exact (nxP_le k).2
      have c1 : 0 ≤ T0 := by rw [hT0, totG_ok HN.out]; omega
      have c2 : T0 ≤ 2564 := by have := HN.out.tot2; rw [hT0, totG_ok HN.out]; omega
      have d1 : 0 ≤ G0 := by rw [hG0, grpG_ok HN.out]; omega
      have d2 : G0 ≤ 577 := by have := HN.out.grp2; rw [hG0, grpG_ok HN.out]; omega
      have HT0 := Lib.hid hT0
      have HG0 := Lib.hid hG0
      have ew : IntKind.i64.wrap (T0 + b) = T0 + b := wrap_in (by omega) (by omega)
      have eg : IntKind.i64.wrap (G0 + p) = G0 + p := wrap_in (by omega) (by omega)
      have HBK := Lib.hid (show wr.cell? ⟨Bb, k, none⟩ = some (.int .i64 b) by rw [hb]; exact (HK5.out.trans HK.out).cell (HBY.out k hlt) (fun q => q))
      have HPK := Lib.hid (show wr.cell? ⟨Pb, k, none⟩ = some (.int .i64 p) by rw [hp]; exact HK.out.cell (HGP.out k hlt) (fun q => q))
      have HXR := Lib.hid (HX4.out.gr (HK6.out.trans HK.out))
      have HCR := Lib.hid ((HC4.out.trans HK6.out).trans HK.out)
      have hFb := heap_alloc_new wr (.cells (geC F) 23)
      have HXF := Lib.hid (show GeX (wr.alloc (.cells (geC F) 23)) wr.heap.size F from ⟨blk_cell hFb, blk_cell hFb, blk_cell hFb, blk_cell hFb⟩)
      have HCF := Lib.hid ((Ch.refl (fun _ => False) wr).alloc (geC F) 23)
      obtain ⟨Hf, hHf⟩ : ∃ Hf, Hf = wr.heap.size := ⟨_, rfl⟩
      have HHF := Lib.hid hHf
      rw [← hHf] at HXF
      clear hb hp hT0 hG0 hFb hHf
      go_wp2_with fail
      refine (gmay_any F _).mono ?_
      rintro e w8 ⟨rfl, hc8⟩
      rw [← HHF.out]
      have HX8 := Lib.hid (show GeX w8 Hf F from GeX.gr HXF.out hc8)
      have HC8 := Lib.hid (show Ch (fun _ => False) wr w8 from Ch.trans HCF.out hc8)
      clear hc8 m0' m1' m2' m3'
      cases tF : mayG F
      · have HK8 := Lib.hid (HK.out.trans HC8.out)
        clear HK
        go_wp2
        go_roundw
        case rel => exact ⟨k + 1, by omega, by go_num, HK8⟩
        case measure => simp [intOf]; omega
      · obtain ⟨e1, e2⟩ := HTF.out tF
        obtain ⟨e3, e4⟩ := copies_of tF
        have HE1 := Lib.hid e1
        have HE2 := Lib.hid e2
        have HE3 := Lib.hid e3
        have HE4 := Lib.hid e4
        have hx := HX8.out
        obtain ⟨x0, x1, x2, x3⟩ := hx
        clear e1 e2 e3 e4
        go_wp2_with fail
        refine (members_any F 0 _).mono ?_
        rintro e w9 ⟨G9, rfl, ho9, hc9⟩
        rw [HE3.out] at ho9 ⊢
        have HI9 := Lib.hid (own_intV ho9 (by omega))
        have HC9 := Lib.hid (HC8.out.trans hc9)
        have HX9 := Lib.hid (HX8.out.gr hc9)
        clear hc9 ho9 x0 x1 x2 x3
        go_wp2_with fail
        refine (ints_any _ _ 4 4 4 4 (secG F 0) (listI [0, 1, 2, 3]) _ (HI9.out.gr ((Ch.refl _ w9).alloc _ _)) (lit_intV w9 [0, 1, 2, 3] (by decide))).mono ?_
        rintro e w10 ⟨rfl, d10, hw10⟩
        rw [HE4.out]
        have hc10 : Ch (fun _ => False) w9 w10 := by rw [hw10]; exact ((Ch.refl _ w9).alloc _ _).drewN d10
        have HC10 := Lib.hid (HC9.out.trans hc10)
        have HXF10 := Lib.hid (HX9.out.gr hc10)
        have HXG10 := Lib.hid (HXR.out.gr HC10.out)
        have HB10 := Lib.hid (HC10.out.cell HBK.out (fun q => q))
        have HP10 := Lib.hid (HC10.out.cell HPK.out (fun q => q))
        have hx := HXF10.out
        obtain ⟨x0, x1, x2, x3⟩ := hx
        have hx := HXG10.out
        obtain ⟨y0, y1, y2, y3⟩ := hx
        have q0 := HB10.out
        have q1 := HP10.out
        have HST := Lib.hid (show ∀ W, Ch (fun _ => False) w10 W → (W.cell? ⟨H, 0, none⟩ = some (.int .i64 n.ge.wal) ∧ W.cell? ⟨H, 1, none⟩ = some (.int .i64 n.ge.st) ∧ W.cell? ⟨H, 2, none⟩ = some (.int .i64 n.ge.k) ∧ W.cell? ⟨H, 3, none⟩ = some (.int .i64 n.ge.m)) ∧ (W.cell? ⟨Hf, 0, none⟩ = some (.int .i64 F.wal) ∧ W.cell? ⟨Hf, 1, none⟩ = some (.int .i64 F.st) ∧ W.cell? ⟨Hf, 2, none⟩ = some (.int .i64 F.k) ∧ W.cell? ⟨Hf, 3, none⟩ = some (.int .i64 F.m)) ∧ W.cell? ⟨Bb, k, none⟩ = some (.int .i64 b) ∧ W.cell? ⟨Pb, k, none⟩ = some (.int .i64 p) from
          fun W k0 => ⟨(HXG10.out.gr k0).all, (HXF10.out.gr k0).all, k0.cell HB10.out (fun q => q), k0.cell HP10.out (fun q => q)⟩)
        clear hc10 hw10
        go_wp2
        go_region_held3 (fun W => (W.cell? ⟨H, 0, none⟩ = some (.int .i64 n.ge.wal) ∧ W.cell? ⟨H, 1, none⟩ = some (.int .i64 n.ge.st) ∧ W.cell? ⟨H, 2, none⟩ = some (.int .i64 n.ge.k) ∧ W.cell? ⟨H, 3, none⟩ = some (.int .i64 n.ge.m)) ∧ (W.cell? ⟨Hf, 0, none⟩ = some (.int .i64 F.wal) ∧ W.cell? ⟨Hf, 1, none⟩ = some (.int .i64 F.st) ∧ W.cell? ⟨Hf, 2, none⟩ = some (.int .i64 F.k) ∧ W.cell? ⟨Hf, 3, none⟩ = some (.int .i64 F.m)) ∧ W.cell? ⟨Bb, k, none⟩ = some (.int .i64 b) ∧ W.cell? ⟨Pb, k, none⟩ = some (.int .i64 p)) (first | go_keep | exact k11 | exact k12 | exact k13 | exact k14)
          (first
            | (have z13 := hd13; clear z13; go_at_call 17; refine (groups_any n.ge _).mono ?_; rintro e w14 ⟨rfl, hc14⟩; rw [← HG0.out]; have hd14 := hd13.trans hc14; have k14 := HST.out _ hd14)
            | (have z12 := hd12; clear z12; go_at_call 17; refine (groups_any F _).mono ?_; rintro e w13 ⟨rfl, hc13⟩; rw [HE2.out]; have hd13 := hd12.trans hc13; have k13 := HST.out _ hd13)
            | (have z11 := hd11; clear z11; go_at_call 15; refine (sectors_any n.ge _).mono ?_; rintro e w12 ⟨rfl, hc12⟩; rw [← HT0.out]; have hd12 := hd11.trans hc12; have k12 := HST.out _ hd12)
            | (go_at_call 15; refine (sectors_any F _).mono ?_; rintro e w11 ⟨rfl, hc11⟩; rw [HE1.out]; have hd11 := (Ch.refl (fun _ => False) w10).drew.trans hc11; have k11 := HST.out _ hd11))
        have HKE := Lib.hid (HK.out.trans (HC10.out.trans hd14))
        clear k11 k12 k13 k14 hc11 hc12 hc13 hc14 hd11 hd12 hd13 hd14 x0 x1 x2 x3 y0 y1 y2 y3 q0 q1 HK
        go_wp2
        go_roundw
        case rel => exact ⟨k + 1, by omega, by go_num, HKE⟩
        case measure => simp [intOf]; omega
    · obtain rfl : k = 3 := by omega
      have HCE := Lib.hid ((HC4.out.trans HK6.out).trans HK.out)
      clear HK
      go_wp2
      go_ret
      exact ⟨rfl, HCE.out⟩
#print axioms geoNext_may
set_option maxHeartbeats 1600000 in
set_option maxRecDepth 100000 in
theorem geoNext_of (g : Ge) (w : World) : Calls Try.prog 6 #[.agg (geC g)] w (Told w) := by
  cases t1 : mayG g
  · obtain ⟨w1, H, hR⟩ := geR w g
    have HR := Lib.hid hR
    have HX1 := Lib.hid hR.x
    clear hR
    go_enter Try.func6, Try.ntmps6
    go_wp2_with ((with_reducible refine wpList_isOp (.box 23 (.tmp 0)) rfl ?_); refine wpList_boxing _ w1 rfl 23 (.tmp 0) rfl (geC g) H rfl (by exact HR.out.sz) (by exact HR.out.al) ?_)
    refine (gawake_any _).mono ?_
    rintro e w2 ⟨rfl, hc2⟩
    have HC2 := Lib.hid (HR.out.ch.trans hc2)
    have hx := HX1.out.gr hc2
    obtain ⟨x0, x1, x2, x3⟩ := hx
    clear hc2
    go_wp2_with fail
    refine (gmay_any g _).mono ?_
    rintro e w3 ⟨rfl, hc3⟩
    go_wp2
    go_ret
    exact ⟨rfl, HC2.out.trans hc3⟩
  · obtain ⟨n, hn, rfl⟩ := may_nat t1
    exact geoNext_may n hn w
#print axioms geoNext_of
end Go.Proofs.Ytfbkfchibfiemaa
