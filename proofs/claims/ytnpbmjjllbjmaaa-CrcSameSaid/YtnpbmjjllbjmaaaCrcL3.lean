/-
  CrcFew, walked.
-/
import Derived.Test.YtnpbmjjllbjmaaaCrcL2
import Derived.Test.YtnpbmjjllbjmaaaOpenB
namespace Go.Proofs.Ytnpbmjjllbjmaaa
open Go.RowKit
set_option linter.unusedVariables false

/-- The first k of four bytes from a on have been changed. -/
def fewZ (z y : Nat → Nat) (a k c : Nat) : Nat := if a ≤ c ∧ c < a + k then z c ^^^ y (c - a) else z c
def fewB (y : Nat → Nat) : Nat → Bool
  | 0 => false
  | k + 1 => fewB y k || (y k != 0)
theorem fewZ_none (z y : Nat → Nat) (a c : Nat) : fewZ z y a 0 c = z c := by unfold fewZ; rw [if_neg (by omega)]
theorem fewZ_at (z y : Nat → Nat) (a k : Nat) : fewZ z y a k (a + k) = z (a + k) := by unfold fewZ; rw [if_neg (by omega)]
theorem fewZ_step (z y : Nat → Nat) (a k c : Nat) : fewZ z y a (k + 1) c = if c = a + k then z (a + k) ^^^ y k else fewZ z y a k c := by
  unfold fewZ
  by_cases e : c = a + k
  · subst e; rw [if_pos (by omega), if_pos rfl, Nat.add_sub_cancel_left]
  · rw [if_neg e]
    by_cases q : a ≤ c ∧ c < a + k
    · rw [if_pos (by omega), if_pos q]
    · rw [if_neg (by omega), if_neg q]
theorem fewZ_b {z y : Nat → Nat} {a k n : Nat} (hz : Bytes n z) (hy : Bytes 4 y) (hk : k ≤ 4) : Bytes n (fewZ z y a k) := fun c hc => by
  unfold fewZ; split
  · exact Crc.xor_lt8 (hz c hc) (hy _ (by omega))
  · exact hz c hc
theorem fewB_four (y : Nat → Nat) : fewB y 4 = false ↔ y 0 = 0 ∧ y 1 = 0 ∧ y 2 = 0 ∧ y 3 = 0 := by
  simp [fewB, and_assoc]
theorem few_whole {n a : Nat} {z y : Nat → Nat} (hz : Bytes n z) (hy : Bytes 4 y) (ha : a ≤ n) : Crc.wholeB (n + 4) (fewZ (Crc.sealZ n z) y a 4) = !fewB y 4 := by
  obtain ⟨d, hd⟩ : ∃ d : Nat → Nat, d = fun c => if a ≤ c ∧ c < a + 4 then y (c - a) else 0 := ⟨_, rfl⟩
  have e : ∀ c, d c = if a ≤ c ∧ c < a + 4 then y (c - a) else 0 := fun c => by rw [hd]
  have d4 : ∀ j, j < 4 → d (a + j) = y j := fun j hj => by rw [e, if_pos (by omega), Nat.add_sub_cancel_left]
  have key := Crc.few (n := n) (at' := a) (z := z) (d := d) hz
    (fun i => by
      rw [e]; split
      · exact hy _ (by omega)
      · omega) ha (fun i hi => by rw [e, if_neg (by omega)])
  have d0 := d4 0 (by omega)
  rw [Nat.add_zero] at d0
  rw [d0, d4 1 (by omega), d4 2 (by omega), d4 3 (by omega), ← fewB_four] at key
  have e2 : Crc.wholeB (n + 4) (fewZ (Crc.sealZ n z) y a 4) = Crc.wholeB (n + 4) (fun i => Crc.sealZ n z i ^^^ d i) := Crc.wholeB_congr fun i _ => by
    unfold fewZ
    rw [e]
    split
    · rfl
    · rw [Nat.xor_zero]
  rw [e2]
  unfold Crc.wholeB
  cases hb : fewB y 4
  · exact decide_eq_true (key.2 hb)
  · exact decide_eq_false fun h => by rw [key.1 h] at hb; cases hb
theorem arr_at {y : Nat → Nat} {n j : Nat} (h : j < n) : (arrV n y)[j]? = some (.int .u8 (y j : Int)) := by
  have : (arrV n y)[j]? = (bytesL n y)[j]? := by unfold arrV; simp
  rw [this, bytesL_get h]
theorem xor_at {a b : Nat} (ha : a < 256) (hb : b < 256) : bits .xor .u8 (a : Int) (b : Int) = ((a ^^^ b : Nat) : Int) := u8_xor_nat a b ha hb
theorem wrap_small {x : Int} (h : 0 ≤ x) (h2 : x ≤ 4294967296) : IntKind.i64.wrap x = x := by rw [IntKind.wrap_i64]; omega
structure FewRel (w : World) (g n C : Nat) (z y : Nat → Nat) (a k : Nat) (wr : World) : Prop where
  own : wr.ownsRow w.heap.size /-t-/5 1 (.slice (some ⟨g, 0, none⟩) n C) n (bytesL n (fewZ z y a k))
  ch : Ch (fun _ => False) w wr
theorem FewRel.base_le {w : World} {g n C : Nat} {z y : Nat → Nat} {a k : Nat} {wr : World} (h : FewRel w g n C z y a k wr) : w.heap.size ≤ g := (World.ownsRow.lt h.own g rfl).1
theorem FewRel.drew {w : World} {g n C : Nat} {z y : Nat → Nat} {a k : Nat} {wr : World} (h : FewRel w g n C z y a k wr) : FewRel w g n C z y a k wr.drew := ⟨ownsRow_ch h.own (Ch.refl _ _).drew, h.ch.drew⟩
theorem FewRel.step {w : World} {g n C : Nat} {z y : Nat → Nat} {a k : Nat} {wr : World} (h : FewRel w g n C z y a k wr) :
    FewRel w g n C z y a (k + 1) (wr.setCell ⟨g, a + k, none⟩ (.int .u8 ((z (a + k) ^^^ y k : Nat) : Int))) := by
  refine ⟨?_, h.ch.setCell (p := ⟨g, a + k, none⟩) (Or.inr h.base_le) _⟩
  have := (World.ownsRow.stored h.own (a + k) (.int .u8 ((z (a + k) ^^^ y k : Nat) : Int))).1
  rw [bytesL_set] at this
  rw [bytesL_congr fun c _ => fewZ_step z y a k c]
  exact this
set_option maxHeartbeats 1600000 in
set_option maxRecDepth 100000 in
theorem crcFew_main (A : Option Addr) (n C a : Nat) (w : World) {z y : Nat → Nat} (ha : RowV w (.slice A n C) n z) (hn : n ≤ 600) (hat : a ≤ n) (hy : Bytes 4 y) : Calls Try.prog 5 #[.slice A n C, .int .i64 (a : Int), .agg (arrV 4 y)] w (Told w) := by
  have HF := Lib.hid (few_whole ha.bytes hy hat)
  have t1 : decide ((600 : Int) < (n : Int)) = false := by simp; omega
  have t2 : decide ((a : Int) < 0) = false := by simp
  have t3 : decide (n < a) = false := by simp; omega
  have HA := Lib.hid (ha.gr ((Ch.refl _ w).alloc (arrV 4 y) 30))
  have HB := Lib.hid ha.bytes
  have HY := Lib.hid hy
  have HT := Lib.hid (show ∀ j, j < 4 → (w.alloc (.cells (arrV 4 y) 30)).cell? ⟨w.heap.size, j, none⟩ = some (.int .u8 (y j : Int)) from fun j hj => by
    rw [cell_of_row _ _ j _ 30 (0, 0) (heap_alloc_new w _)]; exact arr_at hj)
  have HC0 := Lib.hid ((Ch.refl (fun _ => False) w).alloc (arrV 4 y) 30)
  clear ha hy
  go_enter Try.func5, Try.ntmps5
  obtain ⟨w0, hw0⟩ : ∃ w0, w0 = w.alloc (.cells (arrV 4 y) 30) := ⟨_, rfl⟩
  go_wp2_with fail
  rw [← hw0] at HA HT HC0 ⊢
  clear hw0
  refine (awake_any _).mono ?_
  rintro e w1 ⟨rfl, hch1⟩
  have HC1 := Lib.hid hch1
  clear hch1
  go_wp2_with fail
  refine (seal_any _ _ _ z _ (by omega) (HA.out.gr HC1.out)).mono ?_
  rintro e w2 ⟨g, Cg, rfl, ho2, hch2⟩
  have HO2 := Lib.hid ho2
  have HC2 := Lib.hid (HC1.out.trans hch2)
  have HSB := Lib.hid (show Bytes (n + 4) (Crc.sealZ n z) from fun c _ => Crc.sealZ_lt HB.out c)
  have HSR := Lib.hid (ownsRow_rowV ho2 (by omega) HSB.out)
  have HW := Lib.hid (show Crc.wholeB (n + 4) (Crc.sealZ n z) = true from decide_eq_true Crc.sealed_whole)
  clear ho2 hch2
  have t4 : (((n + 4 : Nat) : Int) != (n : Int) + 4) = false := by simp
  obtain ⟨N, hN⟩ : ∃ N, N = n + 4 := ⟨_, rfl⟩
  have hNN : (n : Int) + 4 = (N : Int) := by omega
  rw [← hN] at HO2 HSB HSR HW HF t4 ⊢
  rw [hNN] at t4
  have hNb : N ≤ 604 := by omega
  have haN : a + 4 ≤ N := by omega
  clear hN
  go_wp2_with fail
  refine (whole_any _ _ _ _ _ HSR.out).mono ?_
  rintro e w3 ⟨rfl, hch3⟩
  rw [HW.out]
  have HR3 := Lib.hid (show FewRel w0 g N Cg (Crc.sealZ n z) y a 0 w3 from ⟨by
    rw [bytesL_congr fun c _ => fewZ_none (Crc.sealZ n z) y a c]
    exact ownsRow_low (ownsRow_ch HO2.out hch3) HC1.out.size, HC2.out.trans hch3⟩)
  clear hch3 HO2 HC2 HC1 HSR HW
  go_wp2
  go_loopw [9, 10] (fun ch i wr => ∃ k : Nat, k ≤ 4 ∧ i = .int .i64 k ∧ ch = .bool (fewB y k) ∧ Hid (FewRel w0 g N Cg (Crc.sealZ n z) y a k wr)) (fun _ i _ => 4 - (intOf i).toNat)
  case atStart => exact ⟨0, Nat.zero_le _, rfl, rfl, HR3⟩
  case round =>
    obtain ⟨k, hk, rfl, rfl, HK⟩ := hrel
    by_cases hlt : k < 4
    · have tk : decide ((k : Int) < 4) = true := by simp; omega
      have c1 := HK.out.ch.cell (HT.out k hlt) (fun f => f)
      have hx : Crc.sealZ n z (a + k) < 256 := HSB.out _ (by omega)
      have hy := HY.out k hlt
      have c2 := World.ownsRow.cellAt HK.out.own (a + k) (by omega)
      have f2 := World.ownsRow.frozenAt HK.out.own (a + k)
      rw [bytesL_get (by omega), fewZ_at] at c2
      have HX := Lib.hid (xor_at hx hy)
      have HN0 := Lib.hid HK.out.step
      rw [← HX.out] at HN0
      obtain ⟨J, hJ⟩ : ∃ J, J = a + k := ⟨_, rfl⟩
      have iw : IntKind.i64.wrap ((a : Int) + (k : Int)) = (J : Int) := by
        rw [show (a : Int) + (k : Int) = (J : Int) by omega]
        exact wrap_small (by omega) (by omega)
      have i1 : (0 : Int) ≤ (J : Int) := by omega
      have i2 : (J : Int) < (N : Int) := by omega
      have i3 : (0 : Int) ≤ (k : Int) := by omega
      have i4 : (k : Int) < 4 := by omega
      rw [← hJ] at c2 f2 HN0 hx
      have c3 := HN0.out.ch.cell (HT.out k hlt) (fun f => f)
      have HN := Lib.hid HN0.out.drew
      by_cases q : fewB y k = true
      · have HQ := Lib.hid (show fewB y (k + 1) = true by show (fewB y k || (y k != 0)) = true; rw [q]; rfl)
        rw [q]
        clear hx hy q hJ HN0
        go_wp2
        go_still_tail 15, (by kernel_rfl)
        change wpList _ _ _ _ _ wr.drew
        go_wp2
        go_roundw
        case rel => first | exact ⟨k + 1, by omega, by go_num, by rw [HQ.out], HN⟩ | ((repeat apply Exists.intro); exact ⟨⟨k + 1, by omega, (show Value.int .i64 ((k : Int) + 1) = .int .i64 ((k + 1 : Nat) : Int) by go_num), congrArg Value.bool HQ.out.symm, HN⟩, rfl⟩)
        case measure => simp [intOf]; omega
      · have hq : fewB y k = false := by simpa using q
        rw [hq]
        by_cases q2 : y k = 0
        · have HQ := Lib.hid (show fewB y (k + 1) = false by show (fewB y k || (y k != 0)) = false; rw [hq, q2]; rfl)
          have tq : ((y k : Int) != 0) = false := by simp [q2]
          clear hx hy q hq q2 hJ HN0
          go_wp2
          go_still_tail 15, (by kernel_rfl)
          change wpList _ _ _ _ _ wr.drew
          go_wp2
          go_roundw
          case rel => first | exact ⟨k + 1, by omega, by go_num, by rw [HQ.out], HN⟩ | ((repeat apply Exists.intro); exact ⟨⟨k + 1, by omega, (show Value.int .i64 ((k : Int) + 1) = .int .i64 ((k + 1 : Nat) : Int) by go_num), congrArg Value.bool HQ.out.symm, HN⟩, rfl⟩)
          case measure => simp [intOf]; omega
        · have HQ := Lib.hid (show fewB y (k + 1) = true by show (fewB y k || (y k != 0)) = true; rw [hq]; simpa using q2)
          have tq : ((y k : Int) != 0) = true := by simp; omega
          clear hx hy q hq q2 hJ HN0
          go_wp2
          go_still_tail 15, (by kernel_rfl)
          change wpList _ _ _ _ _ wr.drew
          go_wp2
          go_roundw
          case rel => first | exact ⟨k + 1, by omega, by go_num, by rw [HQ.out], HN⟩ | ((repeat apply Exists.intro); exact ⟨⟨k + 1, by omega, (show Value.int .i64 ((k : Int) + 1) = .int .i64 ((k + 1 : Nat) : Int) by go_num), congrArg Value.bool HQ.out.symm, HN⟩, rfl⟩)
          case measure => simp [intOf]; omega
    · obtain rfl : k = 4 := by omega
      have HRW := Lib.hid (ownsRow_rowV HK.out.own (by omega) (fewZ_b HSB.out HY.out (Nat.le_refl 4)))
      have HC := Lib.hid (HC0.out.trans HK.out.ch)
      obtain ⟨q, hq⟩ : ∃ q, q = fewB y 4 := ⟨_, rfl⟩
      rw [← hq] at HF ⊢
      clear hq HK
      go_wp2_with fail
      refine (whole_any _ _ _ _ _ HRW.out).mono ?_
      rintro e w5 ⟨rfl, hch5⟩
      rw [HF.out]
      cases q <;> (go_wp2; go_ret; exact ⟨rfl, HC.out.trans hch5⟩)
#print axioms crcFew_main
set_option maxHeartbeats 1600000 in
set_option maxRecDepth 100000 in
theorem crcFew_long (A : Option Addr) (n C : Nat) (t : Int) (w : World) {y : Nat → Nat} (hn1 : n ≤ 140737488351232) (hn : ¬ n ≤ 600) : Calls Try.prog 5 #[.slice A n C, .int .i64 t, .agg (arrV 4 y)] w (Told w) := by
  have t1 : decide ((600 : Int) < (n : Int)) = true := by simp; omega
  have HC0 := Lib.hid ((Ch.refl (fun _ => False) w).alloc (arrV 4 y) 30)
  go_enter Try.func5, Try.ntmps5
  go_wp2_with fail
  refine (awake_any _).mono ?_
  rintro e w1 ⟨rfl, hch1⟩
  go_wp2
  go_ret
  exact ⟨rfl, HC0.out.trans hch1⟩
set_option maxHeartbeats 1600000 in
set_option maxRecDepth 100000 in
theorem crcFew_off (A : Option Addr) (n C : Nat) (t : Int) (w : World) {z y : Nat → Nat} (ha : RowV w (.slice A n C) n z) (hn : n ≤ 600) (h : t < 0 ∨ (n : Int) < t) : Calls Try.prog 5 #[.slice A n C, .int .i64 t, .agg (arrV 4 y)] w (Told w) := by
  have t1 : decide ((600 : Int) < (n : Int)) = false := by simp; omega
  have HA := Lib.hid (ha.gr ((Ch.refl _ w).alloc (arrV 4 y) 30))
  have HB := Lib.hid ha.bytes
  have HC0 := Lib.hid ((Ch.refl (fun _ => False) w).alloc (arrV 4 y) 30)
  clear ha
  obtain ⟨b2, hb2⟩ : ∃ b, decide (t < 0) = b := ⟨_, rfl⟩
  obtain ⟨b3, hb3⟩ : ∃ b, decide ((n : Int) < t) = b := ⟨_, rfl⟩
  have HD := Lib.hid (show b2 = true ∨ b3 = true by rw [← hb2, ← hb3]; simpa using h)
  clear h
  go_enter Try.func5, Try.ntmps5
  obtain ⟨w0, hw0⟩ : ∃ w0, w0 = w.alloc (.cells (arrV 4 y) 30) := ⟨_, rfl⟩
  go_wp2_with fail
  rw [← hw0] at HA HC0 ⊢
  clear hw0
  refine (awake_any _).mono ?_
  rintro e w1 ⟨rfl, hch1⟩
  have HC1 := Lib.hid hch1
  clear hch1
  go_wp2_with fail
  refine (seal_any _ _ _ z _ (by omega) (HA.out.gr HC1.out)).mono ?_
  rintro e w2 ⟨g, Cg, rfl, ho2, hch2⟩
  have HC2 := Lib.hid ((HC0.out.trans HC1.out).trans hch2)
  have HSB := Lib.hid (show Bytes (n + 4) (Crc.sealZ n z) from fun c _ => Crc.sealZ_lt HB.out c)
  have HSR := Lib.hid (ownsRow_rowV ho2 (by omega) HSB.out)
  have HW := Lib.hid (show Crc.wholeB (n + 4) (Crc.sealZ n z) = true from decide_eq_true Crc.sealed_whole)
  clear ho2 hch2
  have t4 : (((n + 4 : Nat) : Int) != (n : Int) + 4) = false := by simp
  have t5 : (((n + 4 : Nat) : Int) == (n : Int) + 4) = true := by simp
  obtain ⟨N, hN⟩ : ∃ N, N = n + 4 := ⟨_, rfl⟩
  have hNN : (n : Int) + 4 = (N : Int) := by omega
  rw [← hN] at HSB HSR HW t4 t5 ⊢
  rw [hNN] at t4 t5
  have hNb : N ≤ 604 := by omega
  clear hN
  go_wp2_with fail
  refine (whole_any _ _ _ _ _ HSR.out).mono ?_
  rintro e w3 ⟨rfl, hch3⟩
  rw [HW.out]
  have HSR3 := Lib.hid (HSR.out.gr hch3)
  have HC3 := Lib.hid (HC2.out.trans hch3)
  clear hch3
  cases b2
  · cases b3
    · exact absurd HD.out (by decide)
    · go_wp2_with fail
      refine (whole_any _ _ _ _ _ HSR3.out).mono ?_
      rintro e w4 ⟨rfl, hch4⟩
      rw [HW.out]
      go_wp2
      go_ret
      exact ⟨rfl, HC3.out.trans hch4⟩
  · go_wp2_with fail
    refine (whole_any _ _ _ _ _ HSR3.out).mono ?_
    rintro e w4 ⟨rfl, hch4⟩
    rw [HW.out]
    go_wp2
    go_ret
    exact ⟨rfl, HC3.out.trans hch4⟩
theorem crcFew_of (va : Value) (t : Int) (vb : Value) (w : World) {n : Nat} {z y : Nat → Nat} (ha : RowV w va n z) (ht : -9223372036854775808 ≤ t ∧ t ≤ 9223372036854775807) (hb : vb = .agg (arrV 4 y)) (hy : Bytes 4 y) : Calls Try.prog 5 #[va, .int .i64 t, vb] w (Told w) := by
  obtain ⟨A, C, rfl, hl, _⟩ := id ha
  subst hb
  by_cases h : n ≤ 600
  case neg => exact crcFew_long A n C t w hl.1 h
  by_cases h2 : 0 ≤ t ∧ t ≤ (n : Int)
  · obtain ⟨a, rfl⟩ : ∃ a : Nat, t = (a : Int) := ⟨t.toNat, by omega⟩
    exact crcFew_main A n C a w ha h (by omega) hy
  · exact crcFew_off A n C t w ha h (by omega)
#print axioms crcFew_of
end Go.Proofs.Ytnpbmjjllbjmaaa
