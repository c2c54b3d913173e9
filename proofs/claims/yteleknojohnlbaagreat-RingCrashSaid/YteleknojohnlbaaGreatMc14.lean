/-
  The document's Seal (quartermasterref07), walked. block.number and read; the document's read (quartermasterref07), walked. block.read and Open, walked. Rows of rows of bytes: to be read, and of one's own. (Cut out of sup's texts.).
-/
import Derived.Test.YteleknojohnlbaaGreatMc13
import Derived.Test.YteleknojohnlbaaGreatMc3
import Derived.Laws.ResultCell
import Derived.StillTailTactics
import Derived.Test.YteleknojohnlbaaGreatMc10
import Derived.Deep.RegionHeld3
namespace Go.Proofs.YteleknojohnlbaaGreat
open Go.RowKit
set_option linter.unusedVariables false
set_option maxRecDepth 100000
structure OutSt (w0 : World) (Z : Nat → Nat) (v : Value) (n : Nat) (w : World) : Prop where
  own : w.ownsRow w0.heap.size /-t-/5 1 v n (bytesL n Z)
  ch : Ch (fun _ => False) w0 w
theorem OutSt.gr {w0 w w' : World} {Z : Nat → Nat} {v : Value} {n : Nat} (h : OutSt w0 Z v n w) (k : Ch (fun _ => False) w w') : OutSt w0 Z v n w' := ⟨ownsRow_ch h.own k, h.ch.trans k⟩
theorem OutSt.app {w0 w : World} {Z y : Nat → Nat} {v x : Value} {n l : Nat} (h : OutSt w0 Z v n w) (hr : RowV w x l y) (hz : ∀ c, c < l → Z (n + c) = y c) (hn : n + l ≤ 1000000) :
    ∃ v' w', (Builtin.append_ #[ /-t-/24, /-t-/24] /-t-/24 #[v, x]).run Tryz.prog w = .ok v' w' ∧ OutSt w0 Z v' (n + l) w' := by
  obtain ⟨v2, w2, hr2, ho2, hg2, _⟩ := app_row h.own h.ch.size hr (by omega)
  rw [bytesL_congr (y := Z) fun c hc => by
    unfold jnZ
    split
    · rfl
    · rw [← hz (c - n) (by omega), show n + (c - n) = c by omega]] at ho2
  exact ⟨v2, w2, hr2, ho2, h.ch.grown hg2 (fun i e => Or.inr (World.ownsRow.lt h.own i e).1)⟩
theorem OutSt.word {w0 w w' : World} {Z : Nat → Nat} {v u : Value} {n l X : Nat} (h : OutSt w0 Z v n w) (ho : w'.ownsRow w.heap.size /-t-/5 1 u l (bytesL l (Crc.byteOf X))) (hc : Ch (fun _ => False) w w') (hz : ∀ c, c < l → Z (n + c) = Crc.byteOf X c) (hn : n + l ≤ 1000000) :
    ∃ v' w2, (Builtin.append_ #[ /-t-/24, /-t-/24] /-t-/24 #[v, u]).run Tryz.prog w' = .ok v' w2 ∧ OutSt w0 Z v' (n + l) w2 :=
  (h.gr hc).app (ownsRow_rowV ho (by omega) (fun c _ => Crc.byteOf_lt _ _)) hz hn
theorem OutSt.one {w0 w : World} {Z : Nat → Nat} {v : Value} {n Y : Nat} {x : Int} (h : OutSt w0 Z v n w) (hx : x = (Y : Int)) (hY : Y < 256) (hz : Z n = Y) (hn : n ≤ 100000) :
    ∃ v' w', (Builtin.append_ #[ /-t-/24, /-t-/24] /-t-/24 #[v, .slice (some ⟨w.heap.size, 0, none⟩) 1 1]).run Tryz.prog (w.alloc (.cells #[.int .u8 x] /-t-/5)) = .ok v' w' ∧ OutSt w0 Z v' (n + 1) w' :=
  (h.gr ((Ch.refl _ w).alloc _ _)).app (one_row w hx hY) (fun c hc => by
    obtain rfl : c = 0 := by omega
    exact hz) (by omega)
theorem zeros_row (w : World) : RowV (w.alloc (.cells #[.int .u8 0, .int .u8 0] /-t-/5)) (.slice (some ⟨w.heap.size, 0, none⟩) 2 2) 2 (fun _ => 0) :=
  ⟨_, _, rfl, by omega, fun _ => ⟨_, _, rfl, fun c hc => ⟨by
    rw [cell_of_row _ _ _ _ _ (0, 0) (heap_alloc_new w _)]
    match c, hc with
    | 0, _ => rfl
    | 1, _ => rfl, by show 0 < 256; omega⟩⟩⟩
theorem secZ_low {b : Bk} {c : Nat} (h : c < 24) : secZ b c = headZ b c := by unfold secZ; rw [if_pos h]
theorem byte_small {x : Nat} (h : x < 256) : Crc.byteOf x 0 = x := by
  show x / 256 ^ 0 % 256 = x
  rw [Nat.pow_zero, Nat.div_one]
  omega
theorem secZ_first {b : Bk} (i : Nat) (hi : i < 4) (hx : f1 b i < 256) : secZ b i = f1 b i := by
  rw [secZ_low (by omega)]
  have := headZ_1 b i 0 hi (by omega)
  rw [Nat.mul_one, Nat.zero_add, Nat.add_zero] at this
  rw [this, byte_small hx]
theorem secZ_num {b : Bk} (i j : Nat) (hi : i < 4) (hj : j < 4) : secZ b (4 + i * 4 + j) = Crc.byteOf (f2 b i) j := by
  rw [secZ_low (by omega)]; exact headZ_2 b i j hi hj
theorem secZ_len {b : Bk} (j : Nat) (hj : j < 2) : secZ b (20 + j) = Crc.byteOf b.len j := by
  rw [secZ_low (by omega)]
  exact headZ_3 b 0 j hj
theorem byte_none (j : Nat) : Crc.byteOf 0 j = 0 := by
  show 0 / 256 ^ j % 256 = 0
  rw [Nat.zero_div]
theorem secZ_pad {b : Bk} (j : Nat) (hj : j < 2) : secZ b (22 + j) = 0 := by
  rw [secZ_low (by omega)]
  have := headZ_3 b 1 j hj
  rw [show 20 + 1 * 2 + j = 22 + j by omega] at this
  rw [this]
  exact byte_none j
theorem secZ_body {b : Bk} (c : Nat) (hc : c < b.len) : secZ b (24 + c) = b.z c := by
  unfold secZ
  rw [if_neg (by omega), if_pos (by omega), Nat.add_sub_cancel_left]
theorem secZ_behind {b : Bk} (c : Nat) (hc : 24 + b.len ≤ c) : secZ b c = 0 := by
  unfold secZ
  rw [if_neg (by omega), if_neg (by omega)]
theorem out_first {w : World} {b : Bk} {x : Int} (h : 1 ≤ b.kind ∧ b.kind ≤ 4) (hx : x = b.kind) : OutSt w (secZ b) (.slice (some ⟨w.heap.size, 0, none⟩) 4 4) 4 (w.alloc (.cells #[.int .u8 81, .int .u8 77, .int .u8 x, .int .u8 0] /-t-/5)) := by
  have hr := World.rowIs_alloc w #[.int .u8 81, .int .u8 77, .int .u8 x, .int .u8 0] /-t-/5 (fun i => .int .u8 ((secZ b i : Nat) : Int)) (fun i hi => by
    have hi4 : i < 4 := hi
    match i, hi4 with
    | 0, _ => rw [secZ_first 0 (by omega) (by show 81 < 256; omega)]; rfl
    | 1, _ => rw [secZ_first 1 (by omega) (by show 77 < 256; omega)]; rfl
    | 2, _ =>
      rw [secZ_first 2 (by omega) (by show b.kind.toNat < 256; omega)]
      show some (Value.int .u8 x) = some (Value.int .u8 ((b.kind.toNat : Nat) : Int))
      rw [hx, Int.toNat_of_nonneg (by omega)]
    | 3, _ => rw [secZ_first 3 (by omega) (by show 0 < 256; omega)]; rfl)
  exact ⟨rowIs_owns hr (Nat.le_refl _) (by unfold maxLen; decide), (Ch.refl _ w).alloc _ _⟩
def lenV : Value → Nat
  | .slice _ n _ => n
  | _ => 0
set_option maxHeartbeats 3200000 in
set_option maxRecDepth 100000 in
theorem rsealB_any (b : Bk) (A : Option Addr) (C : Nat) (w : World) (hV : b.V = .slice A b.len C) (hb : BkIs w b) : Calls Tryz.prog 47 #[.agg (bkC b)] w (SealPost b w) := by
  obtain ⟨w1, H, hR⟩ := bkR w b
  have hl : b.len ≤ 140737488351232 := by obtain ⟨_, _, _, h, _⟩ := hb.row; exact h.1
  have x5 : w1.cell? ⟨H, 5, none⟩ = some (.slice A b.len C) := by rw [← hV]; exact hR.at 5
  have HL := Lib.hid (load_bk hR.cx)
  have HB := Lib.hid (hb.gr hR.ch)
  have HX := Lib.hid (And.intro (hR.at 0) (And.intro (hR.at 1) (And.intro (hR.at 2) (And.intro (hR.at 3) (hR.at 4)))))
  have HR := Lib.hid hR
  have HV := Lib.hid hV
  clear hR hV hb
  by_cases hn : numB b = true
  case neg =>
    have hn : numB b = false := by simpa using hn
    have HN := Lib.hid (show sealN b = 0 by unfold sealN mayB; rw [hn]; rfl)
    have HE := Lib.hid (show sealE b = 1 by unfold sealE; rw [hn]; rfl)
    have HQ := Lib.hid hn
    clear hn
    go_enter Tryz.func47, Tryz.ntmps47
    go_wp2_with (first
      | ((with_reducible refine wpList_isOp (.box 80 (.tmp 0)) rfl ?_); refine wpList_boxing _ w1 rfl 80 (.tmp 0) rfl (bkC b) H rfl (by exact HR.out.sz) (by exact HR.out.al) ?_)
      | ((with_reducible refine wpList_isOp (.load 80 (.tmp 1)) rfl ?_); refine wpList_loading _ rfl 80 (.tmp 1) rfl (.agg (bkC b)) ⟨H, 0, none⟩ rfl (by exact HL.out) ?_))
    refine (rnumbers_any b _).mono ?_
    rintro e w2 ⟨rfl, hc2⟩
    rw [HQ.out]
    have HC := Lib.hid (HR.out.ch.trans hc2)
    clear hc2
    go_wp2
    go_ret2
    exact sealPost_no HN.out HE.out HC.out
  by_cases hs : b.len ≤ 228
  case neg =>
    have HN := Lib.hid (show sealN b = 0 by unfold sealN mayB; rw [hn, decide_eq_false hs]; rfl)
    have HE := Lib.hid (show sealE b = 2 by unfold sealE; rw [if_pos hn, if_neg hs])
    have HQ := Lib.hid hn
    have t1 : decide ((228 : Int) < (b.len : Int)) = true := by simp; omega
    clear hn hs
    go_enter Tryz.func47, Tryz.ntmps47
    go_wp2_with (first
      | ((with_reducible refine wpList_isOp (.box 80 (.tmp 0)) rfl ?_); refine wpList_boxing _ w1 rfl 80 (.tmp 0) rfl (bkC b) H rfl (by exact HR.out.sz) (by exact HR.out.al) ?_)
      | ((with_reducible refine wpList_isOp (.load 80 (.tmp 1)) rfl ?_); refine wpList_loading _ rfl 80 (.tmp 1) rfl (.agg (bkC b)) ⟨H, 0, none⟩ rfl (by exact HL.out) ?_))
    refine (rnumbers_any b _).mono ?_
    rintro e w2 ⟨rfl, hc2⟩
    rw [HQ.out]
    have y5 := hc2.cell x5 (fun f => f)
    have HC := Lib.hid (HR.out.ch.trans hc2)
    clear hc2 x5
    go_wp2
    go_ret2
    exact sealPost_no HN.out HE.out HC.out
  have HM := Lib.hid (show mayB b = true by unfold mayB; rw [hn, decide_eq_true hs]; rfl)
  have hNum := numB_iff.1 hn
  have HQ := Lib.hid hn
  have t1 : decide ((228 : Int) < (b.len : Int)) = false := by simp; omega
  have HZB := Lib.hid (secZ_b HB.out.row.bytes 252)
  have HLN := Lib.hid hs
  obtain ⟨k1, k2⟩ := hNum.kind
  obtain ⟨v1, v2⟩ := hNum.vol
  obtain ⟨a1, a2⟩ := hNum.addr
  obtain ⟨e1, e2⟩ := hNum.epoch
  obtain ⟨s1, s2⟩ := hNum.seq
  have HVO := Lib.hid (show ∃ x : Nat, x ≤ 4294967295 ∧ b.vol = (x : Int) ∧ ∀ c, c < 4 → secZ b (4 + c) = Crc.byteOf x c from ⟨b.vol.toNat, by omega, by omega, fun c hc => secZ_num 0 c (by omega) hc⟩)
  have HAD := Lib.hid (show ∃ x : Nat, x ≤ 4294967295 ∧ b.addr = (x : Int) ∧ ∀ c, c < 4 → secZ b (8 + c) = Crc.byteOf x c from ⟨b.addr.toNat, by omega, by omega, fun c hc => secZ_num 1 c (by omega) hc⟩)
  have HEP := Lib.hid (show ∃ x : Nat, x ≤ 4294967295 ∧ b.epoch = (x : Int) ∧ ∀ c, c < 4 → secZ b (12 + c) = Crc.byteOf x c from ⟨b.epoch.toNat, by omega, by omega, fun c hc => secZ_num 2 c (by omega) hc⟩)
  have HSE := Lib.hid (show ∃ x : Nat, x ≤ 4294967295 ∧ b.seq = (x : Int) ∧ ∀ c, c < 4 → secZ b (16 + c) = Crc.byteOf x c from ⟨b.seq.toNat, by omega, by omega, fun c hc => secZ_num 3 c (by omega) hc⟩)
  have HKD := Lib.hid (And.intro k1 k2)
  have HKM := Lib.hid (show b.kind % 256 = b.kind by omega)
  clear hn hNum k1 k2 v1 v2 a1 a2 e1 e2 s1 s2 hs
  obtain ⟨xv, xvl, xve, xvz⟩ := HVO.out
  obtain ⟨xa, xal, xae, xaz⟩ := HAD.out
  obtain ⟨xe, xel, xee, xez⟩ := HEP.out
  obtain ⟨xs, xsl, xse, xsz⟩ := HSE.out
  have HZ1 := Lib.hid xvz
  have HZ2 := Lib.hid xaz
  have HZ3 := Lib.hid xez
  have HZ4 := Lib.hid xsz
  have HL1 := Lib.hid (And.intro xvl (And.intro xal (And.intro xel xsl)))
  have HY := Lib.hid (show w1.cell? ⟨H, 0, none⟩ = some (.int .i64 b.kind) ∧ w1.cell? ⟨H, 1, none⟩ = some (.int .i64 (xv : Int)) ∧ w1.cell? ⟨H, 2, none⟩ = some (.int .i64 (xa : Int)) ∧ w1.cell? ⟨H, 3, none⟩ = some (.int .i64 (xe : Int)) ∧ w1.cell? ⟨H, 4, none⟩ = some (.int .i64 (xs : Int)) from
    ⟨HX.out.1, HX.out.2.1.trans (by rw [← xve]; rfl), HX.out.2.2.1.trans (by rw [← xae]; rfl), HX.out.2.2.2.1.trans (by rw [← xee]; rfl), HX.out.2.2.2.2.trans (by rw [← xse]; rfl)⟩)
  clear xvz xaz xez xsz xvl xal xel xsl xve xae xee xse HVO HAD HEP HSE HX
  go_enter Tryz.func47, Tryz.ntmps47
  go_wp2_with (first
    | ((with_reducible refine wpList_isOp (.box 80 (.tmp 0)) rfl ?_); refine wpList_boxing _ w1 rfl 80 (.tmp 0) rfl (bkC b) H rfl (by exact HR.out.sz) (by exact HR.out.al) ?_)
    | ((with_reducible refine wpList_isOp (.load 80 (.tmp 1)) rfl ?_); refine wpList_loading _ rfl 80 (.tmp 1) rfl (.agg (bkC b)) ⟨H, 0, none⟩ rfl (by exact HL.out) ?_))
  refine (rnumbers_any b _).mono ?_
  rintro e w2 ⟨rfl, hc2⟩
  rw [HQ.out]
  have HC2 := Lib.hid hc2
  have y5 := hc2.cell x5 (fun f => f)
  have c0 := hc2.cell HY.out.1 (fun f => f)
  have H3 := Lib.hid (out_first (w := w2) (b := b) (x := b.kind % 256) HKD.out HKM.out)
  have c1 := H3.out.ch.cell (hc2.cell HY.out.2.1 (fun f => f)) (fun f => f)
  clear hc2 x5
  go_wp2_with fail
  refine (word_any xv 4 _ HL1.out.1 (by omega)).mono ?_
  rintro e w4 ⟨u4, rfl, ho4, hc4⟩
  obtain ⟨v5, w5, hr5, h5⟩ := H3.out.word ho4 hc4 HZ1.out (by omega)
  have HR5 := Lib.hid hr5
  have H5 := Lib.hid h5
  have c2 := h5.ch.cell (HC2.out.cell HY.out.2.2.1 (fun f => f)) (fun f => f)
  clear hr5 h5 ho4 hc4 c0 c1 y5
  go_wp2_with (at_builtin; refine wpList_app_of _ rfl (.tmp 18) (.tmp 21) rfl rfl _ _ v5 w5 rfl rfl HR5.out ?_)
  refine (word_any xa 4 _ HL1.out.2.1 (by omega)).mono ?_
  rintro e w6 ⟨u6, rfl, ho6, hc6⟩
  obtain ⟨v7, w7, hr7, h7⟩ := H5.out.word ho6 hc6 HZ2.out (by omega)
  have HR7 := Lib.hid hr7
  have H7 := Lib.hid h7
  have c3 := h7.ch.cell (HC2.out.cell HY.out.2.2.2.1 (fun f => f)) (fun f => f)
  clear hr7 h7 ho6 hc6 c2 HR5 H5 H3
  go_wp2_with (at_builtin; refine wpList_app_of _ rfl (.tmp 23) (.tmp 26) rfl rfl _ _ v7 w7 rfl rfl HR7.out ?_)
  refine (word_any xe 4 _ HL1.out.2.2.1 (by omega)).mono ?_
  rintro e w8 ⟨u8, rfl, ho8, hc8⟩
  obtain ⟨v9, w9, hr9, h9⟩ := H7.out.word ho8 hc8 HZ3.out (by omega)
  have HR9 := Lib.hid hr9
  have H9 := Lib.hid h9
  have c4 := h9.ch.cell (HC2.out.cell HY.out.2.2.2.2 (fun f => f)) (fun f => f)
  clear hr9 h9 ho8 hc8 c3 HR7 H7
  go_wp2_with (at_builtin; refine wpList_app_of _ rfl (.tmp 28) (.tmp 31) rfl rfl _ _ v9 w9 rfl rfl HR9.out ?_)
  refine (word_any xs 4 _ HL1.out.2.2.2 (by omega)).mono ?_
  rintro e w10 ⟨u10, rfl, ho10, hc10⟩
  obtain ⟨v11, w11, hr11, h11⟩ := H9.out.word ho10 hc10 HZ4.out (by omega)
  have HR11 := Lib.hid hr11
  have H11 := Lib.hid h11
  have c5 : w11.cell? ⟨H, 5, none⟩ = some (.slice A b.len C) := h11.ch.cell (HC2.out.cell (by rw [← HV.out]; exact HR.out.at 5) (fun f => f)) (fun f => f)
  clear hr11 h11 ho10 hc10 c4 HR9 H9
  go_wp2_with (at_builtin; refine wpList_app_of _ rfl (.tmp 33) (.tmp 36) rfl rfl _ _ v11 w11 rfl rfl HR11.out ?_)
  refine (word_any b.len 2 _ (by have := HLN.out; omega) (by omega)).mono ?_
  rintro e w12 ⟨u12, rfl, ho12, hc12⟩
  obtain ⟨v13, w13, hr13, h13⟩ := H11.out.word ho12 hc12 (fun c hc => secZ_len c hc) (by omega)
  obtain ⟨v14, w14, hr14, h14⟩ := (h13.gr ((Ch.refl _ w13).alloc #[.int .u8 0, .int .u8 0] /-t-/5)).app (zeros_row w13) (fun c hc => secZ_pad c hc) (by omega)
  have c6 : w14.cell? ⟨H, 5, none⟩ = some (.slice A b.len C) := h14.ch.cell (HC2.out.cell (by rw [← HV.out]; exact HR.out.at 5) (fun f => f)) (fun f => f)
  have hbr : RowV w14 (.slice A b.len C) b.len b.z := by
    have h := HB.out.row.gr (HC2.out.trans h14.ch)
    rw [HV.out] at h
    exact h
  obtain ⟨v15, w15, hr15, h15⟩ := h14.app hbr (fun c hc => secZ_body c hc) (by have := HLN.out; omega)
  have HR13 := Lib.hid hr13
  have HR14 := Lib.hid hr14
  have HR15 := Lib.hid hr15
  have H15 := Lib.hid h15
  clear hr13 h13 ho12 hc12 c5 HR11 H11 hr14 h14 hbr hr15 h15
  go_wp2_with (first
    | (at_builtin; refine wpList_app_of _ rfl (.tmp 38) (.tmp 42) rfl rfl _ _ v13 w13 rfl rfl HR13.out ?_)
    | (at_builtin; refine wpList_app_of _ rfl (.tmp 44) (.tmp 45) rfl rfl _ _ v14 w14 rfl rfl HR14.out ?_)
    | (at_builtin; refine wpList_app_of _ rfl (.tmp 47) (.tmp 49) rfl rfl _ _ v15 w15 rfl rfl HR15.out ?_))
  obtain ⟨N, hN⟩ : ∃ N, N = 4 + 4 + 4 + 4 + 4 + 2 + 2 + b.len := ⟨_, rfl⟩
  have HN := Lib.hid (show 24 + b.len = N by omega)
  have hNl : N ≤ 252 := by have := HLN.out; omega
  rw [← hN] at H15
  clear hN HR13 HR14 HR15 c6
  go_loopw [5] (fun v wr => ∃ (k : Nat) (g C : Nat), (N ≤ k ∧ k ≤ 252) ∧ v = .slice (some ⟨g, 0, none⟩) k C ∧ Hid (OutSt w2 (secZ b) v k wr)) (fun v _ => 252 - lenV v)
  case atStart =>
    obtain ⟨g, C, e, _⟩ := owns_some H15.out.own (by have := HN.out; omega)
    exact ⟨N, g, C, ⟨Nat.le_refl _, hNl⟩, e, H15⟩
  case round =>
    obtain ⟨k, g, CC, ⟨hk1, hk2⟩, rfl, HK⟩ := hrel
    by_cases hlt : k < 252
    · have tk : decide ((k : Int) < 252) = true := by simp; omega
      obtain ⟨v16, w16, hr16, h16⟩ := HK.out.one (x := 0) (Y := 0) rfl (by omega) (secZ_behind k (by have := HN.out; omega)) (by omega)
      obtain ⟨g6, C6, rfl, _⟩ := owns_some h16.own (by omega)
      have HR16 := Lib.hid hr16
      have H16 := Lib.hid h16
      clear hr16 h16
      go_wp2_with (at_builtin; refine wpList_app_of _ rfl (.tmp 54) (.tmp 55) rfl rfl _ _ (.slice (some ⟨g6, 0, none⟩) (k + 1) C6) w16 rfl rfl HR16.out ?_)
      go_roundw
      case rel => exact ⟨k + 1, g6, C6, ⟨by omega, by omega⟩, rfl, H16⟩
      case measure => simp [lenV]; omega
    · obtain rfl : k = 252 := by omega
      have HV6 := Lib.hid (ownsRow_rowV HK.out.own (by omega) HZB.out)
      have HC6 := Lib.hid (HR.out.ch.trans (HC2.out.trans HK.out.ch))
      go_wp2_with fail
      refine (rseal_any _ 252 _ (secZ b) _ (by omega) HV6.out).mono ?_
      rintro e w7 ⟨g7, C7, rfl, ho7, hc7⟩
      have HPOST := Lib.hid (show SealPost b w (.returned (.tuple #[.slice (some ⟨g7, 0, none⟩) 256 C7, .int .i64 0])) w7 from by
        have e1 : sealN b = 256 := by unfold sealN; rw [HM.out]; rfl
        have e2 : sealE b = 0 := of_decide_eq_true (by rw [← sealE_may]; exact HM.out)
        exact ⟨_, _, by rw [e1, e2], by rw [e1]; exact ownsRow_low ho7 HC6.out.size, HC6.out.trans hc7⟩)
      clear ho7 hc7
      go_wp2
      go_ret2
      exact HPOST.out
end Go.Proofs.YteleknojohnlbaaGreat
namespace Go.Proofs.YteleknojohnlbaaGreat
open Go.RowKit
set_option linter.unusedVariables false
set_option maxRecDepth 100000
def pk (k : Nat) : Nat := 256 ^ k
theorem pk_succ (k : Nat) : pk (k + 1) = pk k * 256 := Nat.pow_succ ..
theorem pk_pos (k : Nat) : 0 < pk k := Nat.pow_pos (by omega)
theorem pk_le {k : Nat} (h : k ≤ 4) : pk k ≤ 4294967296 := Nat.pow_le_pow_right (n := 256) (by omega) h
def nv (z : Nat → Nat) (a : Nat) : Nat → Nat
  | 0 => 0
  | k + 1 => nv z a k + z (a + k) * pk k
theorem nv_lt {z : Nat → Nat} {a : Nat} : ∀ k, (∀ i, i < k → z (a + i) < 256) → nv z a k < pk k
  | 0, _ => by show 0 < pk 0; exact pk_pos 0
  | k + 1, h => by
    have h1 := nv_lt k (fun i hi => h i (by omega))
    have h2 := h k (by omega)
    show nv z a k + z (a + k) * pk k < pk (k + 1)
    rw [pk_succ]
    have h3 : z (a + k) * pk k ≤ 255 * pk k := Nat.mul_le_mul_right _ (by omega)
    omega
theorem pow_pk (k : Nat) : (2 : Int) ^ (8 * k) = (pk k : Int) := by
  unfold pk
  rw [show (256 : Nat) = 2 ^ 8 from rfl, ← Nat.pow_mul]
  exact (Int.natCast_pow 2 (8 * k)).symm
theorem i64_or {a b : Nat} (ha : a < 4294967296) (hb : b < 4294967296) : bits .or .i64 (a : Int) (b : Int) = ((a ||| b : Nat) : Int) := by
  have hx : a ||| b < 2 ^ 32 := Nat.or_lt_two_pow (by omega) (by omega)
  have h1 : (BitVec.ofInt 64 (a : Int)).toNat = a := by
    rw [BitVec.ofInt_natCast, BitVec.toNat_ofNat]; exact Nat.mod_eq_of_lt (by omega)
  have h2 : (BitVec.ofInt 64 (b : Int)).toNat = b := by
    rw [BitVec.ofInt_natCast, BitVec.toNat_ofNat]; exact Nat.mod_eq_of_lt (by omega)
  show IntKind.i64.wrap ((BitVec.ofInt 64 (a : Int) ||| BitVec.ofInt 64 (b : Int)).toNat : Int) = _
  rw [BitVec.toNat_or, h1, h2]
  simp [IntKind.wrap, IntKind.bits, IntKind.signed]
  omega
theorem pk_two (k : Nat) : 2 ^ (8 * k) = pk k := by unfold pk; rw [show (256 : Nat) = 2 ^ 8 from rfl, ← Nat.pow_mul]
theorem or_is {S x k : Nat} (hk : k < 4) (hS : S < pk k) (hx : x < 256) : bits .or .i64 (S : Int) (wrap64 ((x : Int) * 2 ^ (8 * k))) = ((S + x * pk k : Nat) : Int) := by
  have hp := pk_le (k := k) (by omega)
  have hp1 := pk_le (k := k + 1) (by omega)
  rw [pk_succ] at hp1
  have hxp : x * pk k ≤ 255 * pk k := Nat.mul_le_mul_right _ (by omega)
  have e : wrap64 ((x : Int) * 2 ^ (8 * k)) = ((x * pk k : Nat) : Int) := by
    rw [pow_pk, ← Int.natCast_mul]
    exact IntWalk.wrap64_in _ ⟨by omega, by omega⟩
  rw [e, i64_or (by omega) (by omega)]
  have h := Nat.two_pow_add_eq_or_of_lt (i := 8 * k) (b := S) (by rw [pk_two]; exact hS) x
  rw [pk_two, Nat.mul_comm] at h
  rw [Nat.or_comm, ← h, Nat.add_comm]
set_option maxHeartbeats 800000 in
set_option maxRecDepth 100000 in
theorem bnumber_any (A : Option Addr) (n C a wide : Nat) (z : Nat → Nat) (w : World) (h : RowV w (.slice A n C) n z) (hw : wide ≤ 4) (ha : a + wide ≤ n) (hn : n ≤ 1000000) : Calls Tryz.prog 131 #[.slice A n C, .int .i64 (a : Int), .int .i64 (wide : Int)] w fun e w' => e = .returned (.int .i64 (nv z a wide : Int)) ∧ w = w' := by
  have HV := Lib.hid h
  have HB := Lib.hid h.bytes
  clear h
  go_enter Tryz.func131, Tryz.ntmps131
  go_wp2
  go_loop [7, 8, 10] (fun s _ i => ∃ k : Nat, k ≤ wide ∧ i = .int .i64 k ∧ s = .int .i64 (nv z a k : Int)) (fun _ _ i => wide - (intOf i).toNat)
  case atStart => exact ⟨0, Nat.zero_le _, rfl, rfl⟩
  case round =>
    obtain ⟨k, hk, rfl, rfl⟩ := hrel
    by_cases hlt : k < wide
    · have tk : decide (k < wide) = true := by simp; omega
      obtain ⟨b, o, rfl, hc⟩ := HV.out.at (by omega)
      obtain ⟨J, hJ⟩ : ∃ J, J = a + k := ⟨_, rfl⟩
      have c1 := hc J (by omega)
      have hx : z J < 256 := HB.out J (by omega)
      have HO := Lib.hid (or_is (S := nv z a k) (x := z J) (k := k) (by omega) (nv_lt k (fun i hi => HB.out _ (by omega))) hx)
      have HS := Lib.hid (show nv z a (k + 1) = nv z a k + z J * pk k by rw [hJ]; rfl)
      have e1 : IntKind.i64.wrap ((a : Int) + (k : Int)) = (J : Int) := by rw [IntKind.wrap_i64]; omega
      have i1 : (0 : Int) ≤ (J : Int) := Int.natCast_nonneg _
      have i2 : (J : Int) < (n : Int) := by omega
      clear hc hJ
      go_wp2
      go_round
      case rel => exact ⟨k + 1, by omega, by go_num, by rw [HS.out]; exact int_eq HO.out⟩
      case measure => simp [intOf]; omega
    · obtain rfl : k = wide := by omega
      have tk : decide (k < k) = false := by simp
      go_wp2
      go_ret
      exact ⟨rfl, rfl⟩
theorem number_still (A : Option Addr) (n C a wide : Nat) (z : Nat → Nat) (w : World) (h : RowV w (.slice A n C) n z) (hw : wide ≤ 4) (ha : a + wide ≤ n) (hn : n ≤ 1000000) : Calls Tryz.prog 131 #[.slice A n C, .int .i64 (a : Int), .int .i64 (wide : Int)] w fun e w' => e = .returned (.int .i64 (nv z a wide : Int)) ∧ w' = w :=
  (bnumber_any A n C a wide z w h hw ha hn).mono fun _ _ ⟨h1, h2⟩ => ⟨h1, h2.symm⟩
theorem nv_1 (z : Nat → Nat) (a : Nat) : nv z a 1 = z a := by
  show 0 + z (a + 0) * pk 0 = z a
  rw [Nat.add_zero, show pk 0 = 1 from rfl]
  omega
theorem nv_2 (z : Nat → Nat) (a : Nat) : nv z a 2 = z a + 256 * z (a + 1) := by
  show 0 + z (a + 0) * pk 0 + z (a + 1) * pk 1 = _
  rw [Nat.add_zero, show pk 0 = 1 from rfl, show pk 1 = 256 from rfl]
  omega
theorem nv_4 (z : Nat → Nat) (a : Nat) : nv z a 4 = numZ z a := by
  show 0 + z (a + 0) * pk 0 + z (a + 1) * pk 1 + z (a + 2) * pk 2 + z (a + 3) * pk 3 = _
  rw [Nat.add_zero, show pk 0 = 1 from rfl, show pk 1 = 256 from rfl, show pk 2 = 65536 from rfl, show pk 3 = 16777216 from rfl]
  unfold numZ Crc.le4
  omega
end Go.Proofs.YteleknojohnlbaaGreat
namespace Go.Proofs.YteleknojohnlbaaGreat
open Go.RowKit
set_option linter.unusedVariables false
set_option maxRecDepth 100000
theorem bkC_one {b : Bk} (h : ∃ A n C, b.V = .slice A n C) : (bkC b).all (·.oneCell') = true := by
  obtain ⟨A, n, C, h⟩ := h
  unfold bkC
  rw [h]
  simp [Value.oneCell']
theorem info_bk (b : Bk) : (Tryz.prog.info? 80).map (·.size) = some (bkC b).size := by
  show _ = some 6
  kernel_rfl
theorem zero_bk (w : World) : (zeroValue 80).run Tryz.prog w = .ok (.agg (bkC bk0)) w := Tryz.zeroValue80 w
structure ZeR (w w1 : World) (H : Nat) : Prop where
  al : w.alloc (.cells (bkC bk0) 80) = w1
  sz : w.heap.size = H
  cx : w1.heap[H]? = some (.cells (bkC bk0) 80 (0, 0))
  ch : Ch (fun _ => False) w w1
theorem zeR (w : World) : ∃ w1 H, ZeR w w1 H := ⟨_, _, rfl, rfl, heap_alloc_new w _, (Ch.refl _ w).alloc _ _⟩
theorem store_bk {w : World} {H : Nat} {a b : Bk} (h : w.heap[H]? = some (.cells (bkC a) 80 (0, 0))) (hb : ∃ A n C, b.V = .slice A n C) :
    (storeVar 80 ⟨H, 0, none⟩ (.agg (bkC b))).run Tryz.prog w = .ok () (w.setRow H (bkC b)) :=
  run_storeVar_row w H _ _ (bkC a) (bkC b) h (info_bk b) rfl (bkC_one hb)
structure StR (w w1 : World) (H : Nat) (b : Bk) : Prop where
  st : (storeVar 80 ⟨H, 0, none⟩ (.agg (bkC b))).run Tryz.prog w = .ok () w1
  cx : w1.heap[H]? = some (.cells (bkC b) 80 (0, 0))
  ch : Ch (fun j => j = H) w w1
theorem stR {w : World} {H : Nat} {a b : Bk} (h : w.heap[H]? = some (.cells (bkC a) 80 (0, 0))) (hb : ∃ A n C, b.V = .slice A n C) : ∃ w1, StR w w1 H b :=
  ⟨_, store_bk h hb, setRow_heap w H (bkC a) _ _ (0, 0) h, (Ch.refl (fun j => j = H) w).setRow (g := H) (Or.inl rfl) _⟩
theorem Ch.over {w0 w w1 : World} {H : Nat} (h : Ch (fun _ => False) w0 w) (k : Ch (fun j => j = H) w w1) (hH : w0.heap.size ≤ H) : Ch (fun _ => False) w0 w1 :=
  h.new (k.mono fun i _ e => by
    subst e
    exact hH)
theorem results_bk {fn : Func} {p u : Tmp} (h : fn.results = #[.cell p 80, .tmp u]) (tmps : Array Value) (w : World) (H : Nat) (b : Bk) (hp : tmps.getD p undef = .pointer (some ⟨H, 0, none⟩)) (hg : w.heap[H]? = some (.cells (bkC b) 80 (0, 0))) :
    (results fn tmps).run Tryz.prog w = .ok (.tuple #[.agg (bkC b), tmps.getD u undef]) w := by
  rw [results_cell_tmp h, hp]
  simp [asAddr, load_bk hg]
def rdLen (z : Nat → Nat) : Nat := if blkLong z ≤ 228 then blkLong z else 228
def bodyZ (z : Nat → Nat) (c : Nat) : Nat := z (24 + c)
def ReadBP (z : Nat → Nat) (w : World) (e : Ending) (w' : World) : Prop :=
  ∃ A C, e = .returned (.agg (bkC (readB (.slice A (rdLen z) C) z))) ∧ w'.ownsRow w.heap.size /-t-/5 1 (.slice A (rdLen z) C) (rdLen z) (bytesL (rdLen z) (bodyZ z)) ∧ Ch (fun _ => False) w w'
theorem readL_le (z : Nat → Nat) : rdLen z ≤ 228 := by unfold rdLen; split <;> omega
theorem own_slice {w : World} {base n : Nat} {v : Value} {xs : List Value} (h : w.ownsRow base /-t-/5 1 v n xs) : ∃ A C, v = .slice A n C := by
  rcases h.2 with ⟨rfl, h0⟩ | ⟨g, cap, cur, rfl, _⟩
  · subst h0; exact ⟨_, _, rfl⟩
  · exact ⟨_, _, rfl⟩
set_option maxHeartbeats 1600000 in
set_option maxRecDepth 100000 in
theorem bread_any (A : Option Addr) (C : Nat) (z : Nat → Nat) (w : World) (h : RowV w (.slice A 256 C) 256 z) : Calls Tryz.prog 119 #[.slice A 256 C] w (ReadBP z w) := by
  obtain ⟨w1, H, hZ⟩ := zeR w
  have HZ := Lib.hid hZ
  have HV1 := Lib.hid (h.gr hZ.ch)
  have HLE := Lib.hid (readL_le z)
  obtain ⟨b, o, rfl, _⟩ := h.at (by omega)
  obtain ⟨L, hL⟩ : ∃ L, L = rdLen z := ⟨_, rfl⟩
  have HL := Lib.hid hL
  have hLb : L ≤ 228 := by rw [hL]; exact readL_le z
  have hCb : 256 ≤ C := by obtain ⟨_, _, e, h2, _⟩ := h; injection e with _ _ e; rw [e]; exact h2.2
  have HN2 := Lib.hid (show nv z 20 2 = blkLong z from nv_2 z 20)
  have HMIN := Lib.hid (show (blkLong z ≤ 228 → L = blkLong z) ∧ (¬ blkLong z ≤ 228 → L = 228) from ⟨fun q => by rw [hL]; unfold rdLen; rw [if_pos q], fun q => by rw [hL]; unfold rdLen; rw [if_neg q]⟩)
  clear hZ h hL
  go_enter Tryz.func119, Tryz.ntmps119
  go_wp2_with ((with_reducible refine wpList_isOp (.alloc 80) rfl ?_); refine wpList_making _ w1 rfl 80 rfl (bkC bk0) H (zero_bk _) (by exact HZ.out.sz) (by exact HZ.out.al) ?_)
  refine (bnumber_any _ 256 _ 20 2 z _ HV1.out (by omega) (by omega) (by omega)).mono ?_
  rintro e w2 ⟨rfl, rfl⟩
  rw [HN2.out]
  have hXb : blkLong z ≤ 65791 := by
    have h0 := HV1.out.bytes 20 (by omega)
    have h1 := HV1.out.bytes 21 (by omega)
    unfold blkLong
    omega
  obtain ⟨X, hX⟩ : ∃ X, X = blkLong z := ⟨_, rfl⟩
  rw [← hX] at HMIN hXb ⊢
  clear hX
  have HS1 := Lib.hid (show Calls Tryz.prog 131 #[.slice (some ⟨b, o, none⟩) 256 C, .int .i64 2, .int .i64 1] w1.drew fun e w' => e = .returned (.int .i64 (z 2 : Int)) ∧ w' = w1.drew from by
    have := number_still (some ⟨b, o, none⟩) 256 C 2 1 z w1.drew (HV1.out.gr (Ch.refl _ w1).drew) (by omega) (by omega) (by omega)
    rw [nv_1] at this
    exact this)
  have HS4 := Lib.hid (show ∀ a : Nat, a + 4 ≤ 256 → Calls Tryz.prog 131 #[.slice (some ⟨b, o, none⟩) 256 C, .int .i64 (a : Int), .int .i64 4] w1.drew fun e w' => e = .returned (.int .i64 (numZ z a : Int)) ∧ w' = w1.drew from fun a ha => by
    have := number_still (some ⟨b, o, none⟩) 256 C a 4 z w1.drew (HV1.out.gr (Ch.refl _ w1).drew) (by omega) (by omega) (by omega)
    rw [nv_4] at this
    exact this)
  have HVD := Lib.hid (HV1.out.gr (Ch.refl _ w1).drew)
  have hcase : (X ≤ 228 ∧ L = X) ∨ (¬ X ≤ 228 ∧ (228 : Int) = (L : Int)) := by
    by_cases hq : X ≤ 228
    · exact Or.inl ⟨hq, HMIN.out.1 hq⟩
    · exact Or.inr ⟨hq, by rw [HMIN.out.2 hq]; rfl⟩
  clear HMIN
  obtain ⟨J, hJ⟩ : ∃ J, J = 24 + L := ⟨_, rfl⟩
  have e1 : IntKind.i64.wrap (24 + (L : Int)) = (J : Int) := by rw [IntKind.wrap_i64]; omega
  have j1 : (24 : Int) ≤ (J : Int) := by omega
  have j2 : (J : Int) ≤ (C : Int) := by omega
  have HCC := Lib.hid (show ¬ C = 24 by omega)
  have HJ := Lib.hid (show J - 24 = L by omega)
  have HBR := Lib.hid (show RowV w1.drew (.slice (some ⟨b, o + 24, none⟩) L (C - 24)) L (bodyZ z) from row_front (row_tail HVD.out (show 24 ≤ 256 by omega)) (by omega))
  clear hJ
  rcases hcase with ⟨hq, rfl⟩ | ⟨hq, hL⟩
  rotate_left
  have HLL := Lib.hid hL
  clear hL
  go_wp2
  rw [HLL.out]
  rotate_left
  go_wp2
  all_goals (
    go_still_tail 14, (by kernel_rfl)
    still_call (HS1.out)
    repeat still_step
    still_call (HS4.out 4 (by omega))
    repeat still_step
    still_call (HS4.out 8 (by omega))
    repeat still_step
    still_call (HS4.out 12 (by omega))
    repeat still_step
    still_call (HS4.out 16 (by omega))
    repeat still_step
    refine wpStill_nil ?_
    change wpList _ _ _ _ _ w1.drew
    rw [if_neg HCC.out, HJ.out]
    go_wp2_with fail
    refine (clone_any _ L _ (bodyZ z) _ HBR.out (by omega)).mono ?_
    rintro e w2 ⟨v, rfl, ho2, hc2⟩
    obtain ⟨A2, C2, rfl⟩ := own_slice ho2
    obtain ⟨w3, h3⟩ := stR (b := readB (.slice A2 L C2) z) ((hc2.block H (blk_lt (o := .cells (bkC bk0) 80 (0, 0)) HZ.out.cx) (fun f => f)).trans HZ.out.cx) ⟨_, _, _, rfl⟩
    have HP := Lib.hid (show ReadBP z w (.returned (.agg (bkC (readB (.slice A2 L C2) z)))) w3 from by
      have hcw : Ch (fun _ => False) w w2 := (HZ.out.ch.drew).trans hc2
      have hH : w.heap.size ≤ H := by rw [HZ.out.sz]; exact Nat.le_refl _
      have hH1 : H < w1.heap.size := blk_lt HZ.out.cx
      rw [HL.out] at ho2 ⊢
      refine ⟨A2, C2, rfl, ownsRow_low (base := w1.drew.heap.size) ?_ HZ.out.ch.drew.size, hcw.over h3.ch hH⟩
      exact own_of ho2 (fun i hi => h3.ch.block i (World.ownsRow.lt ho2 i hi).2 (fun e => by
        have h5 := (World.ownsRow.lt ho2 i hi).1
        have h6 : w1.drew.heap.size = w1.heap.size := rfl
        omega)))
    have H3 := Lib.hid h3
    clear ho2 hc2 h3
    go_wp2_with ((with_reducible refine wpList_isOp (.store 80 (.tmp 2) (.tmp 22)) rfl ?_); refine wpList_storing _ w3 rfl 80 (.tmp 2) (.tmp 22) rfl (.agg (bkC (readB (.slice A2 L C2) z))) ⟨H, 0, none⟩ rfl rfl (by exact H3.out.st) ?_)
    exact bodyPost_ret (v := .agg (bkC (readB (.slice A2 L C2) z))) (results_cell_row Tryz.results119 _ _ H 80 (bkC (readB (.slice A2 L C2) z)) (0, 0) _ rfl H3.out.cx Tryz.underlying80 rfl (info_bk _)) rfl HP.out)
end Go.Proofs.YteleknojohnlbaaGreat
namespace Go.Proofs.YteleknojohnlbaaGreat
open Go.RowKit
set_option linter.unusedVariables false
set_option maxRecDepth 100000
structure BsV (w : World) (A : Option Addr) (k C : Nat) (N : Nat → Nat) (Z : Nat → Nat → Nat) : Prop where
  le : k ≤ 140737488351232
  cap : k ≤ C
  at' : 0 < k → ∃ b o, A = some ⟨b, o, none⟩ ∧ ∀ c, c < k → ∃ A' C', w.cell? ⟨b, o + c, none⟩ = some (.slice A' (N c) C') ∧ RowV w (.slice A' (N c) C') (N c) (Z c)
theorem BsV.ch {S : Nat → Prop} {w w' : World} {A : Option Addr} {k C : Nat} {N : Nat → Nat} {Z : Nat → Nat → Nat} (h : BsV w A k C N Z) (g : Ch S w w') (hS : ∀ i, i < w.heap.size → ¬ S i) : BsV w' A k C N Z :=
  ⟨h.le, h.cap, fun h0 => by
    obtain ⟨b, o, hA, hc⟩ := h.at' h0
    refine ⟨b, o, hA, fun c hck => ?_⟩
    obtain ⟨A', C', h1, h2⟩ := hc c hck
    exact ⟨A', C', g.cell h1 (hS _ (World.block_lt_of_cell? _ _ h1)), h2.ch g hS⟩⟩
theorem BsV.gr {w w' : World} {A : Option Addr} {k C : Nat} {N : Nat → Nat} {Z : Nat → Nat → Nat} (h : BsV w A k C N Z) (g : Ch (fun _ => False) w w') : BsV w' A k C N Z := h.ch g (fun _ _ f => f)
theorem own_new {w wr w2 : World} {n C : Nat} {A : Option Addr} {z : Nat → Nat} (h : w2.ownsRow wr.heap.size /-t-/5 1 (.slice A n C) n (bytesL n z)) (hn : 0 < n) (hn2 : n ≤ 1000000) (hz : Bytes n z) (hc : w.heap.size ≤ wr.heap.size) : ∃ g, A = some ⟨g, 0, none⟩ ∧ OwnB w w2 (.slice A n C) n z g 0 C := by
  have hr := ownsRow_rowV h (by omega) hz
  obtain ⟨g, C', e, _⟩ := owns_some h hn
  injection e with e1 _ e2
  subst e1
  obtain ⟨hg, hb⟩ := own_at h (i := g) rfl
  exact ⟨g, rfl, ⟨rfl, hr, hb, Nat.le_trans hc hg⟩⟩
theorem under_bs : Tryz.prog.underlying /-t-/37 = some (.slice /-t-/24) := by kernel_rfl
theorem info_bs : (Tryz.prog.info? /-t-/24).map (fun i => (i.zero, i.size, i.bytes)) = some (some (.slice none 0 0), 1, 24) := by kernel_rfl
theorem wpList_appB {ops : Array Oper} {rest : List Oper} {o : Oper} {a : Act} {Q : Exit → Act → World → Prop} (w : World) (hgd : o.guard = none) (s x : Operand)
    (ho : o.op = .call { callee := .builtin .append, args := #[s, x], argTypes := #[ /-t-/37, /-t-/37] }) (hty : o.type = /-t-/37) (sv xv v' : Value) (w' : World) (hs : a.eval s = sv) (hx : a.eval x = xv)
    (hrun : (Builtin.append_ #[ /-t-/37, /-t-/37] /-t-/37 #[sv, xv]).run Tryz.prog w = .ok v' w') (h : wpList Tryz.prog ops Q rest (a.put o.dst v') w') : wpList Tryz.prog ops Q (o :: rest) a w := by
  refine wpList_plain hgd fun _ hK => ?_
  unfold Oper.wp execOp
  simp only [ho, hty, resolve, invoke, builtin, Sem.run_bind, Sem.run_pure, Result.andThen_ok, List.map_toArray, List.map_cons, List.map_nil, hs, hx, hrun]
  exact hK _ _ h
def RowN (w wr : World) (u : Value) (n : Nat) (z : Nat → Nat) : Prop := ∃ A C, u = .slice A n C ∧ n ≤ C ∧ (n = 0 ∨ ∃ sb so, OwnB w wr u n z sb so C)
theorem RowN.ch {S : Nat → Prop} {w wr w' : World} {u : Value} {n : Nat} {z : Nat → Nat} (h : RowN w wr u n z) (k : Ch S wr w') (hS : ∀ i, S i → w.heap.size ≤ i → ¬ ∃ c, wr.heap[i]? = some (.cells c /-t-/5 (0, 0))) : RowN w w' u n z := by
  obtain ⟨A, C, h1, h2, h3⟩ := h
  refine ⟨A, C, h1, h2, h3.elim Or.inl fun ⟨sb, so, q⟩ => Or.inr ⟨sb, so, q.ch k fun hs => hS sb hs q.lo q.blk⟩⟩
theorem RowN.row {w wr : World} {u : Value} {n : Nat} {z : Nat → Nat} (h : RowN w wr u n z) : RowV wr u n z := by
  obtain ⟨A, C, h1, h2, h3⟩ := h
  rcases h3 with rfl | ⟨sb, so, q⟩
  · exact ⟨A, C, h1, ⟨by omega, h2⟩, fun q => absurd q (Nat.lt_irrefl 0)⟩
  · rw [q.eq]; exact q.row
theorem RowN.own {w wr w2 : World} {v : Value} {n : Nat} {z : Nat → Nat} (h : w2.ownsRow wr.heap.size /-t-/5 1 v n (bytesL n z)) (hn2 : n ≤ 1000000) (hz : Bytes n z) (hc : w.heap.size ≤ wr.heap.size) : RowN w w2 v n z := by
  obtain ⟨A, C, rfl⟩ := own_slice h
  obtain ⟨_, C', e, h2, _⟩ := ownsRow_rowV h (by omega) hz
  injection e with _ _ e
  subst e
  refine ⟨A, C, rfl, h2.2, ?_⟩
  by_cases q : n = 0
  · exact Or.inl q
  · obtain ⟨g, rfl, hb⟩ := own_new h (by omega) hn2 hz hc
    exact Or.inr ⟨g, 0, hb⟩
end Go.Proofs.YteleknojohnlbaaGreat
