/-
  CrcSame, walked.
-/
import Derived.Test.YtnpbmjjllbjmaaaCrcL3
namespace Go.Proofs.Ytnpbmjjllbjmaaa
open Go.RowKit
set_option linter.unusedVariables false

/-- The first k are differences, the rest noughts. -/
def difZ (z y : Nat → Nat) (k c : Nat) : Nat := if c < k then z c ^^^ y c else 0
theorem difZ_step (z y : Nat → Nat) (k c : Nat) : difZ z y (k + 1) c = if c = k then z k ^^^ y k else difZ z y k c := by
  unfold difZ
  by_cases e : c = k
  · subst e; rw [if_pos (by omega), if_pos rfl]
  · rw [if_neg e]
    by_cases q : c < k
    · rw [if_pos (by omega), if_pos q]
    · rw [if_neg (by omega), if_neg q]
theorem difZ_b {z y : Nat → Nat} {k n : Nat} (hz : Bytes n z) (hy : Bytes n y) : Bytes n (difZ z y k) := fun c hc => by
  unfold difZ; split
  · exact Crc.xor_lt8 (hz c hc) (hy c hc)
  · omega
theorem dif_sums (n : Nat) (z y : Nat → Nat) : Crc.sumZ n z ^^^ Crc.sumZ n y ^^^ Crc.sumZ n (difZ z y n) ^^^ Crc.sumZ n (fun _ => 0) = 0 := by
  rw [Crc.sumZ_congr (z := difZ z y n) (y := fun i => z i ^^^ y i) fun i hi => if_pos hi]
  exact Crc.sums_same n z y
/-- Noughts that are made. -/
theorem zero_own (w : World) (n : Nat) (hn : n ≤ 65536) : (w.alloc (.cells (madeCells #[.int .u8 0] n) /-t-/5)).ownsRow w.heap.size /-t-/5 1 (.slice (some ⟨w.heap.size, 0, none⟩) n n) n (bytesL n (fun _ => 0)) :=
  rowIs_owns (World.rowIs_made w (.int .u8 0) n /-t-/5) (Nat.le_refl _) (by unfold maxLen; omega)
theorem i64_xor {a b : Nat} (ha : a < 4294967296) (hb : b < 4294967296) : bits .xor .i64 (a : Int) (b : Int) = ((a ^^^ b : Nat) : Int) := by
  have hx : a ^^^ b < 2 ^ 32 := Nat.xor_lt_two_pow (by omega) (by omega)
  have h1 : (BitVec.ofInt 64 (a : Int)).toNat = a := by
    rw [BitVec.ofInt_natCast, BitVec.toNat_ofNat]; exact Nat.mod_eq_of_lt (by omega)
  have h2 : (BitVec.ofInt 64 (b : Int)).toNat = b := by
    rw [BitVec.ofInt_natCast, BitVec.toNat_ofNat]; exact Nat.mod_eq_of_lt (by omega)
  show IntKind.i64.wrap ((BitVec.ofInt 64 (a : Int) ^^^ BitVec.ofInt 64 (b : Int)).toNat : Int) = _
  rw [BitVec.toNat_xor, h1, h2]
  simp [IntKind.wrap, IntKind.bits, IntKind.signed]
  omega
theorem dif_test {n : Nat} {z y : Nat → Nat} (hz : Bytes n z) (hy : Bytes n y) :
    (bits .xor .i64 (bits .xor .i64 (bits .xor .i64 (Crc.sumZ n z : Int) (Crc.sumZ n y : Int)) (Crc.sumZ n (difZ z y n) : Int)) (Crc.sumZ n (fun _ => 0) : Int) == 0) = true := by
  have a := Crc.sumZ_lt hz
  have b := Crc.sumZ_lt hy
  have c := Crc.sumZ_lt (difZ_b (k := n) hz hy)
  have d := Crc.sumZ_lt (n := n) (z := fun _ => 0) fun _ _ => by omega
  rw [i64_xor a b, i64_xor (Crc.xor_lt a b) c, i64_xor (Crc.xor_lt (Crc.xor_lt a b) c) d, dif_sums]
  rfl
structure DifRel (w : World) (g n : Nat) (z y : Nat → Nat) (k : Nat) (wr : World) : Prop where
  own : wr.ownsRow w.heap.size /-t-/5 1 (.slice (some ⟨g, 0, none⟩) n n) n (bytesL n (difZ z y k))
  ch : Ch (fun _ => False) w wr
theorem DifRel.base_le {w : World} {g n : Nat} {z y : Nat → Nat} {k : Nat} {wr : World} (h : DifRel w g n z y k wr) : w.heap.size ≤ g := (World.ownsRow.lt h.own g rfl).1
theorem DifRel.drew {w : World} {g n : Nat} {z y : Nat → Nat} {k : Nat} {wr : World} (h : DifRel w g n z y k wr) : DifRel w g n z y k wr.drew := ⟨ownsRow_ch h.own (Ch.refl _ _).drew, h.ch.drew⟩
theorem DifRel.step {w : World} {g n : Nat} {z y : Nat → Nat} {k : Nat} {wr : World} (h : DifRel w g n z y k wr) :
    DifRel w g n z y (k + 1) (wr.setCell ⟨g, k, none⟩ (.int .u8 ((z k ^^^ y k : Nat) : Int))) := by
  refine ⟨?_, h.ch.setCell (p := ⟨g, k, none⟩) (Or.inr h.base_le) _⟩
  have := (World.ownsRow.stored h.own k (.int .u8 ((z k ^^^ y k : Nat) : Int))).1
  rw [bytesL_set] at this
  rw [bytesL_congr fun c _ => difZ_step z y k c]
  exact this
set_option maxHeartbeats 1600000 in
set_option maxRecDepth 100000 in
theorem crcSame_main (A B : Option Addr) (n C D : Nat) (w : World) {z y : Nat → Nat} (ha : RowV w (.slice A n C) n z) (hb : RowV w (.slice B n D) n y) (hn : n ≤ 600) : Calls Try.prog 7 #[.slice A n C, .slice B n D] w (Told w) := by
  have t1 : decide ((600 : Int) < (n : Int)) = false := by simp; omega
  have t2 : ((n : Int) != (n : Int)) = false := by simp
  have hmk := run_make_row' (P := Try.prog) /-t-/22 /-t-/5 (.int .u8 0) 1 Try.underlying22 Try.info5 rfl .i64 .i64 n (by omega) (by omega)
  have HA := Lib.hid ha
  have HB := Lib.hid hb
  have HZ := Lib.hid ha.bytes
  have HY := Lib.hid hb.bytes
  clear ha hb
  go_enter Try.func7, Try.ntmps7
  go_wp2_with fail
  refine (awake_any _).mono ?_
  rintro e w1 ⟨rfl, hch1⟩
  have HC1 := Lib.hid hch1
  have H0 := Lib.hid (show DifRel w1 w1.heap.size n z y 0 (w1.alloc (.cells (madeCells #[.int .u8 0] n) /-t-/5)) from ⟨by
    rw [bytesL_congr (y := fun _ => 0) fun c _ => by unfold difZ; rw [if_neg (Nat.not_lt_zero c)]]
    exact zero_own w1 n (by omega), (Ch.refl _ _).alloc _ _⟩)
  clear hch1
  go_wp2
  go_loopw [7] (fun i wr => ∃ k : Nat, k ≤ n ∧ i = .int .i64 k ∧ Hid (DifRel w1 w1.heap.size n z y k wr)) (fun i _ => n - (intOf i).toNat)
  case atStart => exact ⟨0, Nat.zero_le _, rfl, H0⟩
  case round =>
    obtain ⟨k, hk, rfl, HK⟩ := hrel
    by_cases hlt : k < n
    · have tk : decide ((k : Int) < (n : Int)) = true := by simp; omega
      obtain ⟨b, o, rfl, hc⟩ := (HA.out.gr (HC1.out.trans HK.out.ch)).at (by omega)
      obtain ⟨b2, o2, rfl, hc2⟩ := (HB.out.gr (HC1.out.trans HK.out.ch)).at (by omega)
      have c1 := hc k hlt
      have c2 := hc2 k hlt
      have HX := Lib.hid (xor_at (HZ.out k hlt) (HY.out k hlt))
      have HN0 := Lib.hid HK.out.step
      rw [← HX.out] at HN0
      have HN := Lib.hid HN0.out.drew
      have f3 := World.ownsRow.frozenAt HK.out.own k
      have c3 := World.ownsRow.cellAt HK.out.own k (by omega)
      rw [bytesL_get (by omega)] at c3
      have i1 : (0 : Int) ≤ (k : Int) := by omega
      have i2 : (k : Int) < (n : Int) := by omega
      clear hc hc2 HN0
      go_wp2
      go_still_tail 12, (by kernel_rfl)
      change wpList _ _ _ _ _ wr.drew
      go_wp2
      go_roundw
      case rel => exact ⟨k + 1, by omega, by go_num, HN⟩
      case measure => simp [intOf]; omega
    · obtain rfl : k = n := by omega
      have HC := Lib.hid ((HC1.out.trans HK.out.ch).drew)
      have HR := Lib.hid ((ownsRow_rowV HK.out.own (by omega) (difZ_b HZ.out HY.out)).gr (Ch.refl _ wr).drew)
      have HA1 := Lib.hid (HA.out.gr HC.out)
      have HB1 := Lib.hid (HB.out.gr HC.out)
      have HZR := Lib.hid (fun w => ownsRow_rowV (zero_own w k (by omega)) (by omega) (fun _ _ => by omega))
      have HSA := Lib.hid (fun (w : World) (h : Ch (fun _ => False) wr.drew w) => sum_any A k C z w (HA1.out.gr h))
      have HSB := Lib.hid (fun (w : World) (h : Ch (fun _ => False) wr.drew w) => sum_any B k D y w (HB1.out.gr h))
      have HSC := Lib.hid (fun (w : World) (h : Ch (fun _ => False) wr.drew w) => sum_any _ k k (difZ z y k) w (HR.out.gr h))
      have HSD := Lib.hid (fun (w0 w : World) (h : Ch (fun _ => False) (w0.alloc (.cells (madeCells #[.int .u8 0] k) /-t-/5)) w) => sum_any _ k k (fun _ => 0) w ((HZR.out w0).gr h))
      have HX := Lib.hid (dif_test HZ.out HY.out)
      clear HA HB HA1 HB1 HR HZR HK HZ HY
      go_wp2_with fail
      go_region_with (first
        | (go_at_call 12; refine (HSA.out _ (by first | exact Ch.refl _ _ | exact (Ch.refl _ _).alloc _ _)).mono ?_; rintro e wa ⟨rfl, hcha⟩)
        | (go_at_call 12; refine (HSB.out _ (by first | exact hcha | exact hcha.alloc _ _ | exact ((Ch.refl _ _).alloc _ _).trans hcha)).mono ?_; rintro e wb ⟨rfl, hchb⟩)
        | (go_at_call 12; refine (HSC.out _ (by first | exact hcha.trans hchb | exact (hcha.trans hchb).alloc _ _ | exact (hcha.alloc _ _).trans hchb | exact (((Ch.refl _ _).alloc _ _).trans hcha).trans hchb)).mono ?_; rintro e wc ⟨rfl, hchc⟩)
        | (go_at_call 12; refine (HSD.out _ _ (by first | exact Ch.refl _ _ | exact hchc | exact hchb.trans hchc | exact (hcha.trans hchb).trans hchc)).mono ?_; rintro e wd ⟨rfl, hchd⟩)
        | (go_at_call 12; refine (HSD.out wr.drew _ ((hcha.trans hchb).trans hchc)).mono ?_; rintro e wd ⟨rfl, hchd⟩))
      all_goals (
        have HF : Ch (fun _ => False) wr.drew wd := by
          first
          | exact ((hcha.trans hchb).trans hchc).trans hchd
          | exact (((((Ch.refl _ _).alloc _ _).trans hcha).trans hchb).trans hchc).trans hchd
          | exact (((hcha.alloc _ _).trans hchb).trans hchc).trans hchd
          | exact (((hcha.trans hchb).alloc _ _).trans hchc).trans hchd
          | exact (((hcha.trans hchb).trans hchc).alloc _ _).trans hchd
        go_wp2_with fail
        go_ret
        exact ⟨ret_bool HX.out, HC.out.trans HF⟩)
set_option maxHeartbeats 1600000 in
set_option maxRecDepth 100000 in
theorem crcSame_short (A B : Option Addr) (n m C D : Nat) (w : World) (hn : n ≤ 140737488351232) (hm : m ≤ 140737488351232) (h : ¬ (n ≤ 600 ∧ n = m)) : Calls Try.prog 7 #[.slice A n C, .slice B m D] w (Told w) := by
  by_cases h1 : n ≤ 600
  · have t1 : decide ((600 : Int) < (n : Int)) = false := by simp; omega
    have t2 : ((n : Int) != (m : Int)) = true := by simp; omega
    clear h
    go_enter Try.func7, Try.ntmps7
    go_wp2_with fail
    refine (awake_any _).mono ?_
    rintro e w1 ⟨rfl, hch1⟩
    go_wp2
    go_ret
    exact ⟨rfl, hch1⟩
  · have t1 : decide ((600 : Int) < (n : Int)) = true := by simp; omega
    clear h
    go_enter Try.func7, Try.ntmps7
    go_wp2_with fail
    refine (awake_any _).mono ?_
    rintro e w1 ⟨rfl, hch1⟩
    go_wp2
    go_ret
    exact ⟨rfl, hch1⟩
theorem crcSame_of (va vb : Value) (w : World) {n m : Nat} {z y : Nat → Nat} (ha : RowV w va n z) (hb : RowV w vb m y) : Calls Try.prog 7 #[va, vb] w (Told w) := by
  obtain ⟨A, C, rfl, hl, _⟩ := id ha
  obtain ⟨B, D, rfl, hm, _⟩ := id hb
  by_cases h : n ≤ 600 ∧ n = m
  · obtain ⟨h1, rfl⟩ := h
    exact crcSame_main A B n C D w ha hb h1
  · exact crcSame_short A B n m C D w hl.1 hm.1 h
#print axioms crcSame_of
end Go.Proofs.Ytnpbmjjllbjmaaa
