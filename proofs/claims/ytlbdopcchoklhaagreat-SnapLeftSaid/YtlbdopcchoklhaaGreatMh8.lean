/-
  The document's numbers (quartermasterref07), walked. The document's Seal (quartermasterref07), walked. bytes.Clone, walked. block.number and read; the document's read (quartermasterref07), walked.
-/
import Derived.Test.YtlbdopcchoklhaaGreatMh5
import Derived.Test.YtlbdopcchoklhaaGreatMh7
import Derived.Test.YtlbdopcchoklhaaGreatMh1
import Derived.Lib.SliceRun
namespace Go.Proofs.YtlbdopcchoklhaaGreat
open Go.RowKit
set_option linter.unusedVariables false
set_option maxRecDepth 100000

theorem numB_words {b : Bk} (h : wordsTo (fourI b.vol b.addr b.epoch b.seq) 4 = false) : numB b = false := by
  unfold numB
  rw [← words_four, h, Bool.and_false]
theorem numB_kind {b : Bk} (h : wordsTo (fourI b.vol b.addr b.epoch b.seq) 4 = true) : numB b = decide (1 ≤ b.kind ∧ b.kind ≤ 4) := by
  unfold numB
  rw [← words_four, h, Bool.and_true]
  rfl
set_option maxHeartbeats 1600000 in
set_option maxRecDepth 100000 in
theorem rnumbers_any (b : Bk) (w : World) : Calls Tryz.prog 72 #[.agg (bkC b)] w (Ans (.bool (numB b)) w) := by
  obtain ⟨w1, H, hR⟩ := bkR w b
  have x1 : w1.cell? ⟨H, 1, none⟩ = some (.int .i64 b.vol) := hR.at 1
  have x2 : w1.cell? ⟨H, 2, none⟩ = some (.int .i64 b.addr) := hR.at 2
  have x3 : w1.cell? ⟨H, 3, none⟩ = some (.int .i64 b.epoch) := hR.at 3
  have x4 : w1.cell? ⟨H, 4, none⟩ = some (.int .i64 b.seq) := hR.at 4
  have HR := Lib.hid hR
  have HA := Lib.hid (heap_alloc_new w1 (.cells (fourV b.vol b.addr b.epoch b.seq) 3))
  have HF := Lib.hid (fun i (hi : i < 4) => four_cell HA.out hi)
  have HX0 := Lib.hid (show (w1.alloc (.cells (fourV b.vol b.addr b.epoch b.seq) 3)).cell? ⟨H, 0, none⟩ = some (.int .i64 b.kind) from ((Ch.refl (fun _ => False) w1).alloc (fourV b.vol b.addr b.epoch b.seq) 3).cell (hR.at 0) (fun f => f))
  have HC := Lib.hid (hR.ch.alloc (fourV b.vol b.addr b.epoch b.seq) 3)
  have HNF := Lib.hid (numB_words (b := b))
  have HNT := Lib.hid (numB_kind (b := b))
  clear hR
  go_enter Tryz.func72, Tryz.ntmps72
  go_wp2_with ((with_reducible refine wpList_isOp (.box 71 (.tmp 0)) rfl ?_); refine wpList_boxing _ w1 rfl 71 (.tmp 0) rfl (bkC b) H rfl (by exact HR.out.sz) (by exact HR.out.al) ?_)
  change Code.wp _ _ _ _ (w1.alloc (.cells (fourV b.vol b.addr b.epoch b.seq) 3))
  obtain ⟨g, hg⟩ : ∃ g, g = w1.heap.size := ⟨_, rfl⟩
  obtain ⟨w2, hw2⟩ : ∃ w2, w2 = w1.alloc (.cells (fourV b.vol b.addr b.epoch b.seq) 3) := ⟨_, rfl⟩
  rw [← hw2] at HF HX0 HC ⊢
  rw [← hg] at HF ⊢
  clear HA hw2 hg x1 x2 x3 x4
  obtain ⟨f, hf⟩ : ∃ f, f = fourI b.vol b.addr b.epoch b.seq := ⟨_, rfl⟩
  rw [← hf] at HF HNF HNT
  clear hf
  have x0 := HX0.out
  go_loopw [4] (fun i wr => ∃ k : Nat, k ≤ 4 ∧ i = .int .i64 k ∧ (∃ d, wr = w2.drewN d) ∧ Hid (wordsTo f k = true)) (fun i _ => 4 - (intOf i).toNat)
  case atStart => exact ⟨0, Nat.zero_le _, rfl, ⟨0, rfl⟩, Lib.hid rfl⟩
  case round =>
    obtain ⟨k, hk, rfl, ⟨d, rfl⟩, HK⟩ := hrel
    by_cases hlt : k < 4
    · have c1 := HF.out k hlt
      obtain ⟨x, hx⟩ : ∃ x, x = f k := ⟨_, rfl⟩
      rw [← hx] at c1
      have tk : decide ((k : Int) < 4) = true := by simp; omega
      have i1 : (0 : Int) ≤ (k : Int) := Int.natCast_nonneg _
      have i2 : (k : Int) < 4 := by omega
      by_cases q1 : x < 0
      · have HN := Lib.hid (wordsTo_false (f := f) hlt (by rw [← hx]; exact decide_eq_false (by omega)))
        have t1 : decide (x < 0) = true := by simp; omega
        clear hx
        go_wp2
        go_ret
        exact ⟨ret_bool (HNF.out HN.out).symm, HC.out.drewN _⟩
      · have t1 : decide (x < 0) = false := by simp; omega
        by_cases q2 : 4294967295 < x
        · have HN := Lib.hid (wordsTo_false (f := f) hlt (by rw [← hx]; exact decide_eq_false (by omega)))
          clear hx
          go_wp2
          go_ret
          exact ⟨ret_bool (HNF.out HN.out).symm, HC.out.drewN _⟩
        · have HN := Lib.hid (show wordsTo f (k + 1) = true by
            show (wordsTo f k && wordB (f k)) = true
            rw [HK.out, Bool.true_and, ← hx]
            exact decide_eq_true (by omega))
          clear hx
          go_wp2
          go_roundw
          case rel => exact ⟨k + 1, by omega, by go_num, ⟨_, rfl⟩, HN⟩
          case measure => simp [intOf]; omega
    · obtain rfl : k = 4 := by omega
      have HE := Lib.hid (HNT.out HK.out)
      by_cases q1 : b.kind < 1
      · have HN := Lib.hid (show decide (1 ≤ b.kind ∧ b.kind ≤ 4) = false from decide_eq_false (by omega))
        have t1 : decide (1 ≤ b.kind) = false := by simp; omega
        clear q1
        go_wp2
        go_ret
        exact ⟨ret_bool (by rw [HE.out, HN.out]), HC.out.drewN _⟩
      · have t1 : decide (1 ≤ b.kind) = true := by simp; omega
        by_cases q2 : 4 < b.kind
        · have HN := Lib.hid (show decide (1 ≤ b.kind ∧ b.kind ≤ 4) = false from decide_eq_false (by omega))
          have t2 : decide (b.kind ≤ 4) = false := by simp; omega
          clear q1 q2
          go_wp2
          go_ret
          exact ⟨ret_bool (by rw [HE.out, HN.out]), HC.out.drewN _⟩
        · have HN := Lib.hid (show decide (1 ≤ b.kind ∧ b.kind ≤ 4) = true from decide_eq_true (by omega))
          have t2 : decide (b.kind ≤ 4) = true := by simp; omega
          clear q1 q2
          go_wp2
          go_ret
          exact ⟨ret_bool (by rw [HE.out, HN.out]), HC.out.drewN _⟩
end Go.Proofs.YtlbdopcchoklhaaGreat
namespace Go.Proofs.YtlbdopcchoklhaaGreat
open Go.RowKit
set_option linter.unusedVariables false
set_option maxRecDepth 100000

/-- What has been laid so far: the first n of Z. -/
structure OutSt (w0 : World) (Z : Nat → Nat) (v : Value) (n : Nat) (w : World) : Prop where
  own : w.ownsRow w0.heap.size /-t-/5 1 v n (bytesL n Z)
  ch : Ch (fun _ => False) w0 w
theorem OutSt.gr {w0 w w' : World} {Z : Nat → Nat} {v : Value} {n : Nat} (h : OutSt w0 Z v n w) (k : Ch (fun _ => False) w w') : OutSt w0 Z v n w' := ⟨ownsRow_ch h.own k, h.ch.trans k⟩
theorem OutSt.app {w0 w : World} {Z y : Nat → Nat} {v x : Value} {n l : Nat} (h : OutSt w0 Z v n w) (hr : RowV w x l y) (hz : ∀ c, c < l → Z (n + c) = y c) (hn : n + l ≤ 1000000) :
    ∃ v' w', (Builtin.append_ #[ /-t-/24, /-t-/24] /-t-/24 #[v, x]).run Tryz.prog w = .ok v' w' ∧ OutSt w0 Z v' (n + l) w' := by
  obtain ⟨v2, w2, hr2, ho2, hg2, _⟩ := app_row h.own h.ch.size hr (by omega)
  rw [bytesL_congr (y := Z) fun c hc => by
    unfold jnZ
    split
    · rfl
    · rw [← hz (c - n) (by omega), show n + (c - n) = c by omega]] at ho2
  exact ⟨v2, w2, hr2, ho2, h.ch.grown hg2 (fun i e => Or.inr (World.ownsRow.lt h.own i e).1)⟩
theorem OutSt.word {w0 w w' : World} {Z : Nat → Nat} {v u : Value} {n l X : Nat} (h : OutSt w0 Z v n w) (ho : w'.ownsRow w.heap.size /-t-/5 1 u l (bytesL l (Crc.byteOf X))) (hc : Ch (fun _ => False) w w') (hz : ∀ c, c < l → Z (n + c) = Crc.byteOf X c) (hn : n + l ≤ 1000000) :
    ∃ v' w2, (Builtin.append_ #[ /-t-/24, /-t-/24] /-t-/24 #[v, u]).run Tryz.prog w' = .ok v' w2 ∧ OutSt w0 Z v' (n + l) w2 :=
  (h.gr hc).app (ownsRow_rowV ho (by omega) (fun c _ => Crc.byteOf_lt _ _)) hz hn
theorem OutSt.one {w0 w : World} {Z : Nat → Nat} {v : Value} {n Y : Nat} {x : Int} (h : OutSt w0 Z v n w) (hx : x = (Y : Int)) (hY : Y < 256) (hz : Z n = Y) (hn : n ≤ 100000) :
    ∃ v' w', (Builtin.append_ #[ /-t-/24, /-t-/24] /-t-/24 #[v, .slice (some ⟨w.heap.size, 0, none⟩) 1 1]).run Tryz.prog (w.alloc (.cells #[.int .u8 x] /-t-/5)) = .ok v' w' ∧ OutSt w0 Z v' (n + 1) w' :=
  (h.gr ((Ch.refl _ w).alloc _ _)).app (one_row w hx hY) (fun c hc => by
    obtain rfl : c = 0 := by omega
    exact hz) (by omega)
theorem zeros_row (w : World) : RowV (w.alloc (.cells #[.int .u8 0, .int .u8 0] /-t-/5)) (.slice (some ⟨w.heap.size, 0, none⟩) 2 2) 2 (fun _ => 0) :=
  ⟨_, _, rfl, by omega, fun _ => ⟨_, _, rfl, fun c hc => ⟨by
    rw [cell_of_row _ _ _ _ _ (0, 0) (heap_alloc_new w _)]
    match c, hc with
    | 0, _ => rfl
    | 1, _ => rfl, by show 0 < 256; omega⟩⟩⟩
theorem secZ_low {b : Bk} {c : Nat} (h : c < 24) : secZ b c = headZ b c := by unfold secZ; rw [if_pos h]
theorem byte_small {x : Nat} (h : x < 256) : Crc.byteOf x 0 = x := by
  show x / 256 ^ 0 % 256 = x
  rw [Nat.pow_zero, Nat.div_one]
  omega
theorem secZ_first {b : Bk} (i : Nat) (hi : i < 4) (hx : f1 b i < 256) : secZ b i = f1 b i := by
  rw [secZ_low (by omega)]
  have := headZ_1 b i 0 hi (by omega)
  rw [Nat.mul_one, Nat.zero_add, Nat.add_zero] at this
  rw [this, byte_small hx]
theorem secZ_num {b : Bk} (i j : Nat) (hi : i < 4) (hj : j < 4) : secZ b (4 + i * 4 + j) = Crc.byteOf (f2 b i) j := by
  rw [secZ_low (by omega)]; exact headZ_2 b i j hi hj
theorem secZ_len {b : Bk} (j : Nat) (hj : j < 2) : secZ b (20 + j) = Crc.byteOf b.len j := by
  rw [secZ_low (by omega)]
  exact headZ_3 b 0 j hj
theorem byte_none (j : Nat) : Crc.byteOf 0 j = 0 := by
  show 0 / 256 ^ j % 256 = 0
  rw [Nat.zero_div]
theorem secZ_pad {b : Bk} (j : Nat) (hj : j < 2) : secZ b (22 + j) = 0 := by
  rw [secZ_low (by omega)]
  have := headZ_3 b 1 j hj
  rw [show 20 + 1 * 2 + j = 22 + j by omega] at this
  rw [this]
  exact byte_none j
theorem secZ_body {b : Bk} (c : Nat) (hc : c < b.len) : secZ b (24 + c) = b.z c := by
  unfold secZ
  rw [if_neg (by omega), if_pos (by omega), Nat.add_sub_cancel_left]
theorem secZ_behind {b : Bk} (c : Nat) (hc : 24 + b.len ≤ c) : secZ b c = 0 := by
  unfold secZ
  rw [if_neg (by omega), if_neg (by omega)]
theorem out_first {w : World} {b : Bk} {x : Int} (h : 1 ≤ b.kind ∧ b.kind ≤ 4) (hx : x = b.kind) : OutSt w (secZ b) (.slice (some ⟨w.heap.size, 0, none⟩) 4 4) 4 (w.alloc (.cells #[.int .u8 81, .int .u8 77, .int .u8 x, .int .u8 0] /-t-/5)) := by
  have hr := World.rowIs_alloc w #[.int .u8 81, .int .u8 77, .int .u8 x, .int .u8 0] /-t-/5 (fun i => .int .u8 ((secZ b i : Nat) : Int)) (fun i hi => by
    have hi4 : i < 4 := hi
    match i, hi4 with
    | 0, _ => rw [secZ_first 0 (by omega) (by show 81 < 256; omega)]; rfl
    | 1, _ => rw [secZ_first 1 (by omega) (by show 77 < 256; omega)]; rfl
    | 2, _ =>
      rw [secZ_first 2 (by omega) (by show b.kind.toNat < 256; omega)]
      show some (Value.int .u8 x) = some (Value.int .u8 ((b.kind.toNat : Nat) : Int))
      rw [hx, Int.toNat_of_nonneg (by omega)]
    | 3, _ => rw [secZ_first 3 (by omega) (by show 0 < 256; omega)]; rfl)
  exact ⟨rowIs_owns hr (Nat.le_refl _) (by unfold maxLen; decide), (Ch.refl _ w).alloc _ _⟩
def lenV : Value → Nat
  | .slice _ n _ => n
  | _ => 0
set_option maxHeartbeats 3200000 in
set_option maxRecDepth 100000 in
theorem rsealB_any (b : Bk) (A : Option Addr) (C : Nat) (w : World) (hV : b.V = .slice A b.len C) (hb : BkIs w b) : Calls Tryz.prog 41 #[.agg (bkC b)] w (SealPost b w) := by
  obtain ⟨w1, H, hR⟩ := bkR w b
  have hl : b.len ≤ 140737488351232 := by obtain ⟨_, _, _, h, _⟩ := hb.row; exact h.1
  have x5 : w1.cell? ⟨H, 5, none⟩ = some (.slice A b.len C) := by rw [← hV]; exact hR.at 5
  have HL := Lib.hid (load_bk hR.cx)
  have HB := Lib.hid (hb.gr hR.ch)
  have HX := Lib.hid (And.intro (hR.at 0) (And.intro (hR.at 1) (And.intro (hR.at 2) (And.intro (hR.at 3) (hR.at 4)))))
  have HR := Lib.hid hR
  have HV := Lib.hid hV
  clear hR hV hb
  by_cases hn : numB b = true
  case neg =>
    have hn : numB b = false := by simpa using hn
    have HN := Lib.hid (show sealN b = 0 by unfold sealN mayB; rw [hn]; rfl)
    have HE := Lib.hid (show sealE b = 1 by unfold sealE; rw [hn]; rfl)
    have HQ := Lib.hid hn
    clear hn
    go_enter Tryz.func41, Tryz.ntmps41
    go_wp2_with (first
      | ((with_reducible refine wpList_isOp (.box 71 (.tmp 0)) rfl ?_); refine wpList_boxing _ w1 rfl 71 (.tmp 0) rfl (bkC b) H rfl (by exact HR.out.sz) (by exact HR.out.al) ?_)
      | ((with_reducible refine wpList_isOp (.load 71 (.tmp 1)) rfl ?_); refine wpList_loading _ rfl 71 (.tmp 1) rfl (.agg (bkC b)) ⟨H, 0, none⟩ rfl (by exact HL.out) ?_))
    refine (rnumbers_any b _).mono ?_
    rintro e w2 ⟨rfl, hc2⟩
    rw [HQ.out]
    have HC := Lib.hid (HR.out.ch.trans hc2)
    clear hc2
    go_wp2
    go_ret2
    exact sealPost_no HN.out HE.out HC.out
  by_cases hs : b.len ≤ 228
  case neg =>
    have HN := Lib.hid (show sealN b = 0 by unfold sealN mayB; rw [hn, decide_eq_false hs]; rfl)
    have HE := Lib.hid (show sealE b = 2 by unfold sealE; rw [if_pos hn, if_neg hs])
    have HQ := Lib.hid hn
    have t1 : decide ((228 : Int) < (b.len : Int)) = true := by simp; omega
    clear hn hs
    go_enter Tryz.func41, Tryz.ntmps41
    go_wp2_with (first
      | ((with_reducible refine wpList_isOp (.box 71 (.tmp 0)) rfl ?_); refine wpList_boxing _ w1 rfl 71 (.tmp 0) rfl (bkC b) H rfl (by exact HR.out.sz) (by exact HR.out.al) ?_)
      | ((with_reducible refine wpList_isOp (.load 71 (.tmp 1)) rfl ?_); refine wpList_loading _ rfl 71 (.tmp 1) rfl (.agg (bkC b)) ⟨H, 0, none⟩ rfl (by exact HL.out) ?_))
    refine (rnumbers_any b _).mono ?_
    rintro e w2 ⟨rfl, hc2⟩
    rw [HQ.out]
    have y5 := hc2.cell x5 (fun f => f)
    have HC := Lib.hid (HR.out.ch.trans hc2)
    clear hc2 x5
    go_wp2
    go_ret2
    exact sealPost_no HN.out HE.out HC.out
  have HM := Lib.hid (show mayB b = true by unfold mayB; rw [hn, decide_eq_true hs]; rfl)
  have hNum := numB_iff.1 hn
  have HQ := Lib.hid hn
  have t1 : decide ((228 : Int) < (b.len : Int)) = false := by simp; omega
  have HZB := Lib.hid (secZ_b HB.out.row.bytes 252)
  have HLN := Lib.hid hs
  obtain ⟨k1, k2⟩ := hNum.kind
  obtain ⟨v1, v2⟩ := hNum.vol
  obtain ⟨a1, a2⟩ := hNum.addr
  obtain ⟨e1, e2⟩ := hNum.epoch
  obtain ⟨s1, s2⟩ := hNum.seq
  have HVO := Lib.hid (show ∃ x : Nat, x ≤ 4294967295 ∧ b.vol = (x : Int) ∧ ∀ c, c < 4 → secZ b (4 + c) = Crc.byteOf x c from ⟨b.vol.toNat, by omega, by omega, fun c hc => secZ_num 0 c (by omega) hc⟩)
  have HAD := Lib.hid (show ∃ x : Nat, x ≤ 4294967295 ∧ b.addr = (x : Int) ∧ ∀ c, c < 4 → secZ b (8 + c) = Crc.byteOf x c from ⟨b.addr.toNat, by omega, by omega, fun c hc => secZ_num 1 c (by omega) hc⟩)
  have HEP := Lib.hid (show ∃ x : Nat, x ≤ 4294967295 ∧ b.epoch = (x : Int) ∧ ∀ c, c < 4 → secZ b (12 + c) = Crc.byteOf x c from ⟨b.epoch.toNat, by omega, by omega, fun c hc => secZ_num 2 c (by omega) hc⟩)
  have HSE := Lib.hid (show ∃ x : Nat, x ≤ 4294967295 ∧ b.seq = (x : Int) ∧ ∀ c, c < 4 → secZ b (16 + c) = Crc.byteOf x c from ⟨b.seq.toNat, by omega, by omega, fun c hc => secZ_num 3 c (by omega) hc⟩)
  have HKD := Lib.hid (And.intro k1 k2)
  have HKM := Lib.hid (show b.kind % 256 = b.kind by omega)
  clear hn hNum k1 k2 v1 v2 a1 a2 e1 e2 s1 s2 hs
  obtain ⟨xv, xvl, xve, xvz⟩ := HVO.out
  obtain ⟨xa, xal, xae, xaz⟩ := HAD.out
  obtain ⟨xe, xel, xee, xez⟩ := HEP.out
  obtain ⟨xs, xsl, xse, xsz⟩ := HSE.out
  have HZ1 := Lib.hid xvz
  have HZ2 := Lib.hid xaz
  have HZ3 := Lib.hid xez
  have HZ4 := Lib.hid xsz
  have HL1 := Lib.hid (And.intro xvl (And.intro xal (And.intro xel xsl)))
  have HY := Lib.hid (show w1.cell? ⟨H, 0, none⟩ = some (.int .i64 b.kind) ∧ w1.cell? ⟨H, 1, none⟩ = some (.int .i64 (xv : Int)) ∧ w1.cell? ⟨H, 2, none⟩ = some (.int .i64 (xa : Int)) ∧ w1.cell? ⟨H, 3, none⟩ = some (.int .i64 (xe : Int)) ∧ w1.cell? ⟨H, 4, none⟩ = some (.int .i64 (xs : Int)) from
    ⟨HX.out.1, HX.out.2.1.trans (by rw [← xve]; rfl), HX.out.2.2.1.trans (by rw [← xae]; rfl), HX.out.2.2.2.1.trans (by rw [← xee]; rfl), HX.out.2.2.2.2.trans (by rw [← xse]; rfl)⟩)
  clear xvz xaz xez xsz xvl xal xel xsl xve xae xee xse HVO HAD HEP HSE HX
  go_enter Tryz.func41, Tryz.ntmps41
  go_wp2_with (first
    | ((with_reducible refine wpList_isOp (.box 71 (.tmp 0)) rfl ?_); refine wpList_boxing _ w1 rfl 71 (.tmp 0) rfl (bkC b) H rfl (by exact HR.out.sz) (by exact HR.out.al) ?_)
    | ((with_reducible refine wpList_isOp (.load 71 (.tmp 1)) rfl ?_); refine wpList_loading _ rfl 71 (.tmp 1) rfl (.agg (bkC b)) ⟨H, 0, none⟩ rfl (by exact HL.out) ?_))
  refine (rnumbers_any b _).mono ?_
  rintro e w2 ⟨rfl, hc2⟩
  rw [HQ.out]
  have HC2 := Lib.hid hc2
  have y5 := hc2.cell x5 (fun f => f)
  have c0 := hc2.cell HY.out.1 (fun f => f)
  have H3 := Lib.hid (out_first (w := w2) (b := b) (x := b.kind % 256) HKD.out HKM.out)
  have c1 := H3.out.ch.cell (hc2.cell HY.out.2.1 (fun f => f)) (fun f => f)
  clear hc2 x5
  go_wp2_with fail
  refine (word_any xv 4 _ HL1.out.1 (by omega)).mono ?_
  rintro e w4 ⟨u4, rfl, ho4, hc4⟩
  obtain ⟨v5, w5, hr5, h5⟩ := H3.out.word ho4 hc4 HZ1.out (by omega)
  have HR5 := Lib.hid hr5
  have H5 := Lib.hid h5
  have c2 := h5.ch.cell (HC2.out.cell HY.out.2.2.1 (fun f => f)) (fun f => f)
  clear hr5 h5 ho4 hc4 c0 c1 y5
  go_wp2_with (at_builtin; refine wpList_app_of _ rfl (.tmp 18) (.tmp 21) rfl rfl _ _ v5 w5 rfl rfl HR5.out ?_)
  refine (word_any xa 4 _ HL1.out.2.1 (by omega)).mono ?_
  rintro e w6 ⟨u6, rfl, ho6, hc6⟩
  obtain ⟨v7, w7, hr7, h7⟩ := H5.out.word ho6 hc6 HZ2.out (by omega)
  have HR7 := Lib.hid hr7
  have H7 := Lib.hid h7
  have c3 := h7.ch.cell (HC2.out.cell HY.out.2.2.2.1 (fun f => f)) (fun f => f)
  clear hr7 h7 ho6 hc6 c2 HR5 H5 H3
  go_wp2_with (at_builtin; refine wpList_app_of _ rfl (.tmp 23) (.tmp 26) rfl rfl _ _ v7 w7 rfl rfl HR7.out ?_)
  refine (word_any xe 4 _ HL1.out.2.2.1 (by omega)).mono ?_
  rintro e w8 ⟨u8, rfl, ho8, hc8⟩
  obtain ⟨v9, w9, hr9, h9⟩ := H7.out.word ho8 hc8 HZ3.out (by omega)
  have HR9 := Lib.hid hr9
  have H9 := Lib.hid h9
  have c4 := h9.ch.cell (HC2.out.cell HY.out.2.2.2.2 (fun f => f)) (fun f => f)
  clear hr9 h9 ho8 hc8 c3 HR7 H7
  go_wp2_with (at_builtin; refine wpList_app_of _ rfl (.tmp 28) (.tmp 31) rfl rfl _ _ v9 w9 rfl rfl HR9.out ?_)
  refine (word_any xs 4 _ HL1.out.2.2.2 (by omega)).mono ?_
  rintro e w10 ⟨u10, rfl, ho10, hc10⟩
  obtain ⟨v11, w11, hr11, h11⟩ := H9.out.word ho10 hc10 HZ4.out (by omega)
  have HR11 := Lib.hid hr11
  have H11 := Lib.hid h11
  have c5 : w11.cell? ⟨H, 5, none⟩ = some (.slice A b.len C) := h11.ch.cell (HC2.out.cell (by rw [← HV.out]; exact HR.out.at 5) (fun f => f)) (fun f => f)
  clear hr11 h11 ho10 hc10 c4 HR9 H9
  go_wp2_with (at_builtin; refine wpList_app_of _ rfl (.tmp 33) (.tmp 36) rfl rfl _ _ v11 w11 rfl rfl HR11.out ?_)
  refine (word_any b.len 2 _ (by have := HLN.out; omega) (by omega)).mono ?_
  rintro e w12 ⟨u12, rfl, ho12, hc12⟩
  obtain ⟨v13, w13, hr13, h13⟩ := H11.out.word ho12 hc12 (fun c hc => secZ_len c hc) (by omega)
  obtain ⟨v14, w14, hr14, h14⟩ := (h13.gr ((Ch.refl _ w13).alloc #[.int .u8 0, .int .u8 0] /-t-/5)).app (zeros_row w13) (fun c hc => secZ_pad c hc) (by omega)
  have c6 : w14.cell? ⟨H, 5, none⟩ = some (.slice A b.len C) := h14.ch.cell (HC2.out.cell (by rw [← HV.out]; exact HR.out.at 5) (fun f => f)) (fun f => f)
  have hbr : RowV w14 (.slice A b.len C) b.len b.z := by
    have h := HB.out.row.gr (HC2.out.trans h14.ch)
    rw [HV.out] at h
    exact h
  obtain ⟨v15, w15, hr15, h15⟩ := h14.app hbr (fun c hc => secZ_body c hc) (by have := HLN.out; omega)
  have HR13 := Lib.hid hr13
  have HR14 := Lib.hid hr14
  have HR15 := Lib.hid hr15
  have H15 := Lib.hid h15
  clear hr13 h13 ho12 hc12 c5 HR11 H11 hr14 h14 hbr hr15 h15
  go_wp2_with (first
    | (at_builtin; refine wpList_app_of _ rfl (.tmp 38) (.tmp 42) rfl rfl _ _ v13 w13 rfl rfl HR13.out ?_)
    | (at_builtin; refine wpList_app_of _ rfl (.tmp 44) (.tmp 45) rfl rfl _ _ v14 w14 rfl rfl HR14.out ?_)
    | (at_builtin; refine wpList_app_of _ rfl (.tmp 47) (.tmp 49) rfl rfl _ _ v15 w15 rfl rfl HR15.out ?_))
  obtain ⟨N, hN⟩ : ∃ N, N = 4 + 4 + 4 + 4 + 4 + 2 + 2 + b.len := ⟨_, rfl⟩
  have HN := Lib.hid (show 24 + b.len = N by omega)
  have hNl : N ≤ 252 := by have := HLN.out; omega
  rw [← hN] at H15
  clear hN HR13 HR14 HR15 c6
  go_loopw [5] (fun v wr => ∃ (k : Nat) (g C : Nat), (N ≤ k ∧ k ≤ 252) ∧ v = .slice (some ⟨g, 0, none⟩) k C ∧ Hid (OutSt w2 (secZ b) v k wr)) (fun v _ => 252 - lenV v)
  case atStart =>
    obtain ⟨g, C, e, _⟩ := owns_some H15.out.own (by have := HN.out; omega)
    exact ⟨N, g, C, ⟨Nat.le_refl _, hNl⟩, e, H15⟩
  case round =>
    obtain ⟨k, g, CC, ⟨hk1, hk2⟩, rfl, HK⟩ := hrel
    by_cases hlt : k < 252
    · have tk : decide ((k : Int) < 252) = true := by simp; omega
      obtain ⟨v16, w16, hr16, h16⟩ := HK.out.one (x := 0) (Y := 0) rfl (by omega) (secZ_behind k (by have := HN.out; omega)) (by omega)
      obtain ⟨g6, C6, rfl, _⟩ := owns_some h16.own (by omega)
      have HR16 := Lib.hid hr16
      have H16 := Lib.hid h16
      clear hr16 h16
      go_wp2_with (at_builtin; refine wpList_app_of _ rfl (.tmp 54) (.tmp 55) rfl rfl _ _ (.slice (some ⟨g6, 0, none⟩) (k + 1) C6) w16 rfl rfl HR16.out ?_)
      go_roundw
      case rel => exact ⟨k + 1, g6, C6, ⟨by omega, by omega⟩, rfl, H16⟩
      case measure => simp [lenV]; omega
    · obtain rfl : k = 252 := by omega
      have HV6 := Lib.hid (ownsRow_rowV HK.out.own (by omega) HZB.out)
      have HC6 := Lib.hid (HR.out.ch.trans (HC2.out.trans HK.out.ch))
      go_wp2_with fail
      refine (rseal_any _ 252 _ (secZ b) _ (by omega) HV6.out).mono ?_
      rintro e w7 ⟨g7, C7, rfl, ho7, hc7⟩
      have HPOST := Lib.hid (show SealPost b w (.returned (.tuple #[.slice (some ⟨g7, 0, none⟩) 256 C7, .int .i64 0])) w7 from by
        have e1 : sealN b = 256 := by unfold sealN; rw [HM.out]; rfl
        have e2 : sealE b = 0 := of_decide_eq_true (by rw [← sealE_may]; exact HM.out)
        exact ⟨_, _, by rw [e1, e2], by rw [e1]; exact ownsRow_low ho7 HC6.out.size, HC6.out.trans hc7⟩)
      clear ho7 hc7
      go_wp2
      go_ret2
      exact HPOST.out
end Go.Proofs.YtlbdopcchoklhaaGreat
namespace Go.Proofs.YtlbdopcchoklhaaGreat
open Go.RowKit
set_option linter.unusedVariables false
set_option maxRecDepth 100000

/-! ### a copy -/
/-- A new row, nil or not. -/
def NewL (n : Nat) (z : Nat → Nat) (w : World) (e : Ending) (w' : World) : Prop := ∃ v, e = .returned v ∧ w'.ownsRow w.heap.size /-t-/5 1 v n (bytesL n z) ∧ Ch (fun _ => False) w w'
theorem eql_nil (w : World) (a : Option Addr) (n c : Nat) : (binOp .eql /-t-/24 (.slice a n c) (.slice none 0 0)).run Tryz.prog w = .ok (.bool a.isNone) w := Lib.run_eql_slice_nil w _ _ a n c 0 0 Tryz.underlying24
set_option maxHeartbeats 400000 in
theorem clone_nil (C : Nat) (w : World) (z : Nat → Nat) : Calls Tryz.prog 122 #[.slice none 0 C] w (NewL 0 z w) := by
  have q := eql_nil w none 0 C
  go_enter Tryz.func122, Tryz.ntmps122
  go_wp2
  go_ret
  exact ⟨_, rfl, World.ownsRow_nil _ _ _ _, Ch.refl _ _⟩
theorem none_owned (w : World) : (w.alloc (.cells #[] /-t-/5)).ownsRow w.heap.size /-t-/5 1 (.slice (some ⟨w.heap.size, 0, none⟩) 0 0) 0 (bytesL 0 fun _ => 0) :=
  ⟨rfl, Or.inr ⟨w.heap.size, 0, #[], rfl, Nat.le_refl _, heap_alloc_new w _, Nat.le_refl _, Nat.zero_le _, rfl, rfl⟩⟩
set_option maxHeartbeats 400000 in
theorem clone_some (ad : Addr) (n C : Nat) (z : Nat → Nat) (w : World) (h : RowV w (.slice (some ad) n C) n z) (hn : n ≤ 1048576) : Calls Tryz.prog 122 #[.slice (some ad) n C] w (NewL n z w) := by
  have hch0 := (Ch.refl (fun _ => False) w).alloc #[] /-t-/5
  obtain ⟨v1, w1, hr1, ho1, hg1, _⟩ := app_row (z := fun _ => 0) (none_owned w) (by simp) (h.gr hch0) (by omega)
  rw [Nat.zero_add, bytesL_congr (y := z) fun c hc => by unfold jnZ; rw [if_neg (by omega)]; rfl] at ho1
  have HR := Lib.hid hr1
  have HO := Lib.hid ho1
  have HC := Lib.hid (hch0.grown hg1 (fun i e => Or.inr (World.ownsRow.lt (none_owned w) i e).1))
  clear hr1 ho1 hg1 h hch0
  have q := eql_nil w (some ad) n C
  go_enter Tryz.func122, Tryz.ntmps122
  go_wp2_with (at_builtin; refine wpList_app_of _ rfl (.tmp 5) (.tmp 6) rfl rfl _ _ v1 w1 rfl rfl HR.out ?_)
  go_ret
  exact ⟨_, rfl, HO.out, HC.out⟩
theorem clone_any (A : Option Addr) (n C : Nat) (z : Nat → Nat) (w : World) (h : RowV w (.slice A n C) n z) (hn : n ≤ 1048576) : Calls Tryz.prog 122 #[.slice A n C] w (NewL n z w) := by
  cases A with
  | some ad => exact clone_some ad n C z w h hn
  | none =>
    obtain ⟨_, _, e, _, h2⟩ := h
    injection e with e1 _ _
    subst e1
    rcases Nat.eq_zero_or_pos n with rfl | q
    · exact clone_nil C w z
    · obtain ⟨_, _, e, _⟩ := h2 q
      cases e
end Go.Proofs.YtlbdopcchoklhaaGreat
namespace Go.Proofs.YtlbdopcchoklhaaGreat
open Go.RowKit
set_option linter.unusedVariables false
set_option maxRecDepth 100000

/-! ### a number out of bytes -/
def pk (k : Nat) : Nat := 256 ^ k
theorem pk_succ (k : Nat) : pk (k + 1) = pk k * 256 := Nat.pow_succ ..
theorem pk_pos (k : Nat) : 0 < pk k := Nat.pow_pos (by omega)
theorem pk_le {k : Nat} (h : k ≤ 4) : pk k ≤ 4294967296 := Nat.pow_le_pow_right (n := 256) (by omega) h
def nv (z : Nat → Nat) (a : Nat) : Nat → Nat
  | 0 => 0
  | k + 1 => nv z a k + z (a + k) * pk k
theorem nv_lt {z : Nat → Nat} {a : Nat} : ∀ k, (∀ i, i < k → z (a + i) < 256) → nv z a k < pk k
  | 0, _ => by show 0 < pk 0; exact pk_pos 0
  | k + 1, h => by
    have h1 := nv_lt k (fun i hi => h i (by omega))
    have h2 := h k (by omega)
    show nv z a k + z (a + k) * pk k < pk (k + 1)
    rw [pk_succ]
    have h3 : z (a + k) * pk k ≤ 255 * pk k := Nat.mul_le_mul_right _ (by omega)
    omega
theorem pow_pk (k : Nat) : (2 : Int) ^ (8 * k) = (pk k : Int) := by
  unfold pk
  rw [show (256 : Nat) = 2 ^ 8 from rfl, ← Nat.pow_mul]
  exact (Int.natCast_pow 2 (8 * k)).symm
theorem i64_or {a b : Nat} (ha : a < 4294967296) (hb : b < 4294967296) : bits .or .i64 (a : Int) (b : Int) = ((a ||| b : Nat) : Int) := by
  have hx : a ||| b < 2 ^ 32 := Nat.or_lt_two_pow (by omega) (by omega)
  have h1 : (BitVec.ofInt 64 (a : Int)).toNat = a := by
    rw [BitVec.ofInt_natCast, BitVec.toNat_ofNat]; exact Nat.mod_eq_of_lt (by omega)
  have h2 : (BitVec.ofInt 64 (b : Int)).toNat = b := by
    rw [BitVec.ofInt_natCast, BitVec.toNat_ofNat]; exact Nat.mod_eq_of_lt (by omega)
  show IntKind.i64.wrap ((BitVec.ofInt 64 (a : Int) ||| BitVec.ofInt 64 (b : Int)).toNat : Int) = _
  rw [BitVec.toNat_or, h1, h2]
  simp [IntKind.wrap, IntKind.bits, IntKind.signed]
  omega
theorem pk_two (k : Nat) : 2 ^ (8 * k) = pk k := by unfold pk; rw [show (256 : Nat) = 2 ^ 8 from rfl, ← Nat.pow_mul]
theorem or_is {S x k : Nat} (hk : k < 4) (hS : S < pk k) (hx : x < 256) : bits .or .i64 (S : Int) (wrap64 ((x : Int) * 2 ^ (8 * k))) = ((S + x * pk k : Nat) : Int) := by
  have hp := pk_le (k := k) (by omega)
  have hp1 := pk_le (k := k + 1) (by omega)
  rw [pk_succ] at hp1
  have hxp : x * pk k ≤ 255 * pk k := Nat.mul_le_mul_right _ (by omega)
  have e : wrap64 ((x : Int) * 2 ^ (8 * k)) = ((x * pk k : Nat) : Int) := by
    rw [pow_pk, ← Int.natCast_mul]
    exact IntWalk.wrap64_in _ ⟨by omega, by omega⟩
  rw [e, i64_or (by omega) (by omega)]
  have h := Nat.two_pow_add_eq_or_of_lt (i := 8 * k) (b := S) (by rw [pk_two]; exact hS) x
  rw [pk_two, Nat.mul_comm] at h
  rw [Nat.or_comm, ← h, Nat.add_comm]
set_option maxHeartbeats 800000 in
set_option maxRecDepth 100000 in
theorem bnumber_any (A : Option Addr) (n C a wide : Nat) (z : Nat → Nat) (w : World) (h : RowV w (.slice A n C) n z) (hw : wide ≤ 4) (ha : a + wide ≤ n) (hn : n ≤ 1000000) : Calls Tryz.prog 133 #[.slice A n C, .int .i64 (a : Int), .int .i64 (wide : Int)] w fun e w' => e = .returned (.int .i64 (nv z a wide : Int)) ∧ w = w' := by
  have HV := Lib.hid h
  have HB := Lib.hid h.bytes
  clear h
  go_enter Tryz.func133, Tryz.ntmps133
  go_wp2
  go_loop [7, 8, 10] (fun s _ i => ∃ k : Nat, k ≤ wide ∧ i = .int .i64 k ∧ s = .int .i64 (nv z a k : Int)) (fun _ _ i => wide - (intOf i).toNat)
  case atStart => exact ⟨0, Nat.zero_le _, rfl, rfl⟩
  case round =>
    obtain ⟨k, hk, rfl, rfl⟩ := hrel
    by_cases hlt : k < wide
    · have tk : decide (k < wide) = true := by simp; omega
      obtain ⟨b, o, rfl, hc⟩ := HV.out.at (by omega)
      obtain ⟨J, hJ⟩ : ∃ J, J = a + k := ⟨_, rfl⟩
      have c1 := hc J (by omega)
      have hx : z J < 256 := HB.out J (by omega)
      have HO := Lib.hid (or_is (S := nv z a k) (x := z J) (k := k) (by omega) (nv_lt k (fun i hi => HB.out _ (by omega))) hx)
      have HS := Lib.hid (show nv z a (k + 1) = nv z a k + z J * pk k by rw [hJ]; rfl)
      have e1 : IntKind.i64.wrap ((a : Int) + (k : Int)) = (J : Int) := by rw [IntKind.wrap_i64]; omega
      have i1 : (0 : Int) ≤ (J : Int) := Int.natCast_nonneg _
      have i2 : (J : Int) < (n : Int) := by omega
      clear hc hJ
      go_wp2
      go_round
      case rel => exact ⟨k + 1, by omega, by go_num, by rw [HS.out]; exact int_eq HO.out⟩
      case measure => simp [intOf]; omega
    · obtain rfl : k = wide := by omega
      have tk : decide (k < k) = false := by simp
      go_wp2
      go_ret
      exact ⟨rfl, rfl⟩
theorem number_still (A : Option Addr) (n C a wide : Nat) (z : Nat → Nat) (w : World) (h : RowV w (.slice A n C) n z) (hw : wide ≤ 4) (ha : a + wide ≤ n) (hn : n ≤ 1000000) : Calls Tryz.prog 133 #[.slice A n C, .int .i64 (a : Int), .int .i64 (wide : Int)] w fun e w' => e = .returned (.int .i64 (nv z a wide : Int)) ∧ w' = w :=
  (bnumber_any A n C a wide z w h hw ha hn).mono fun _ _ ⟨h1, h2⟩ => ⟨h1, h2.symm⟩
theorem nv_1 (z : Nat → Nat) (a : Nat) : nv z a 1 = z a := by
  show 0 + z (a + 0) * pk 0 = z a
  rw [Nat.add_zero, show pk 0 = 1 from rfl]
  omega
theorem nv_2 (z : Nat → Nat) (a : Nat) : nv z a 2 = z a + 256 * z (a + 1) := by
  show 0 + z (a + 0) * pk 0 + z (a + 1) * pk 1 = _
  rw [Nat.add_zero, show pk 0 = 1 from rfl, show pk 1 = 256 from rfl]
  omega
theorem nv_4 (z : Nat → Nat) (a : Nat) : nv z a 4 = numZ z a := by
  show 0 + z (a + 0) * pk 0 + z (a + 1) * pk 1 + z (a + 2) * pk 2 + z (a + 3) * pk 3 = _
  rw [Nat.add_zero, show pk 0 = 1 from rfl, show pk 1 = 256 from rfl, show pk 2 = 65536 from rfl, show pk 3 = 16777216 from rfl]
  unfold numZ Crc.le4
  omega

/-! ### the document's read -/
end Go.Proofs.YtlbdopcchoklhaaGreat
