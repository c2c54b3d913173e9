/-
  CrcOwn, walked.
-/
import Derived.Test.YtnpbmjjllbjmaaaCrcL1
namespace Go.Proofs.Ytnpbmjjllbjmaaa
open Go.RowKit
set_option linter.unusedVariables false

theorem u8_next (x : Nat) : ((x : Int) + 1) % 256 = (((x + 1) % 256 : Nat) : Int) := by omega
/-- A row of one's own, of whatever bytes. -/
def Soft (base : Nat) (w : World) (g n C : Nat) : Prop := ∃ q, Bytes n q ∧ w.ownsRow base /-t-/5 1 (.slice (some ⟨g, 0, none⟩) n C) n (bytesL n q)
theorem Soft.next {base : Nat} {w : World} {g n C i x : Nat} (h : Soft base w g n C) : Soft base (w.setCell ⟨g, i, none⟩ (.int .u8 (((x : Int) + 1) % 256))) g n C := by
  obtain ⟨q, hq, ho⟩ := h
  refine ⟨fun c => if c = i then (x + 1) % 256 else q c, fun c hc => ?_, ?_⟩
  · show (if c = i then (x + 1) % 256 else q c) < 256
    split
    · omega
    · exact hq c hc
  · rw [u8_next, ← bytesL_set]
    exact (World.ownsRow.stored ho i _).1
theorem Soft.at {base : Nat} {w : World} {g n C i : Nat} (h : Soft base w g n C) (hi : i < n) : ∃ x : Nat, x < 256 ∧ w.cell? ⟨g, i, none⟩ = some (.int .u8 (x : Int)) ∧ w.frozen? ⟨g, i, none⟩ = false := by
  obtain ⟨q, hq, ho⟩ := h
  exact ⟨q i, hq i hi, by rw [World.ownsRow.cellAt ho i (by omega), bytesL_get hi], World.ownsRow.frozenAt ho i⟩
theorem Soft.base_le {base : Nat} {w : World} {g n C : Nat} (h : Soft base w g n C) : base ≤ g := by
  obtain ⟨q, _, ho⟩ := h
  exact (World.ownsRow.lt ho g rfl).1
set_option maxHeartbeats 1600000 in
set_option maxRecDepth 100000 in
theorem crcOwn_of (va : Value) (w : World) {n : Nat} {z : Nat → Nat} (ha : RowV w va n z) : Calls Try.prog 6 #[va] w (Told w) := by
  obtain ⟨A, C, rfl, hl, _⟩ := id ha
  have hl1 := hl.1
  have HA := Lib.hid ha
  have HB := Lib.hid ha.bytes
  clear ha hl
  by_cases h : n ≤ 600
  case neg =>
    have t1 : decide ((600 : Int) < (n : Int)) = true := by simp; omega
    go_enter Try.func6, Try.ntmps6
    go_wp2_with fail
    refine (awake_any _).mono ?_
    rintro e w1 ⟨rfl, hch1⟩
    go_wp2
    go_ret
    exact ⟨rfl, hch1⟩
  have t1 : decide ((600 : Int) < (n : Int)) = false := by simp; omega
  go_enter Try.func6, Try.ntmps6
  go_wp2_with fail
  refine (awake_any _).mono ?_
  rintro e w1 ⟨rfl, hch1⟩
  have HC1 := Lib.hid hch1
  clear hch1
  obtain ⟨v2, w2, hr2, ho2, hch2⟩ := app_copy (HA.out.gr HC1.out) (by omega)
  have hR2 := ownsRow_rowV ho2 (by omega) HB.out
  obtain ⟨A2, C2, rfl, _⟩ := id hR2
  have HR2 := Lib.hid hr2
  have HV2 := Lib.hid hR2
  have HC2 := Lib.hid (HC1.out.trans hch2)
  clear hr2 ho2 hch2 hR2
  go_wp2_with (at_builtin; refine wpList_app_of _ rfl (.const (.slice none 0 0)) (.tmp 17) rfl rfl (.slice none 0 0) (.slice A n C) (.slice A2 n C2) w2 rfl rfl HR2.out ?_)
  refine (seal_any _ _ _ z _ (by omega) HV2.out).mono ?_
  rintro e w3 ⟨g, Cg, rfl, ho3, hch3⟩
  have HS := Lib.hid (show Soft w2.heap.size w3 g (n + 4) Cg from ⟨_, fun c _ => Crc.sealZ_lt HB.out c, ho3⟩)
  have HC3 := Lib.hid hch3
  clear ho3 hch3 HR2
  obtain ⟨N, hN⟩ : ∃ N, N = n + 4 := ⟨_, rfl⟩
  rw [← hN] at HS ⊢
  have hNb : N ≤ 604 := by omega
  clear hN
  go_wp2
  go_loopw [6] (fun i wr => ∃ k : Nat, k ≤ N ∧ i = .int .i64 k ∧ Hid (Soft w2.heap.size wr g N Cg ∧ Ch (fun _ => False) w2 wr)) (fun i _ => N - (intOf i).toNat)
  case atStart => exact ⟨0, Nat.zero_le _, rfl, Lib.hid ⟨HS.out, HC3.out⟩⟩
  case round =>
    obtain ⟨k, hk, rfl, HK⟩ := hrel
    by_cases hlt : k < N
    · obtain ⟨x, hx, c1, f1⟩ := HK.out.1.at hlt
      have HN := Lib.hid (show Soft w2.heap.size (wr.setCell ⟨g, k, none⟩ (.int .u8 (((x : Int) + 1) % 256))) g N Cg ∧ Ch (fun _ => False) w2 (wr.setCell ⟨g, k, none⟩ (.int .u8 (((x : Int) + 1) % 256))) from ⟨HK.out.1.next, HK.out.2.setCell (p := ⟨g, k, none⟩) (Or.inr HK.out.1.base_le) _⟩)
      go_wp2
      go_roundw
      case rel => exact ⟨k + 1, by omega, by go_num, HN⟩
      case measure => simp [intOf]; omega
    · have HV := Lib.hid (HV2.out.gr HK.out.2)
      have HC := Lib.hid (HC2.out.trans HK.out.2)
      go_wp2_with fail
      refine (same_any _ _ _ _ _ _ _ _ _ HV.out (HA.out.gr HC.out)).mono ?_
      rintro e w4 ⟨rfl, d, rfl⟩
      rw [eqB_refl]
      go_wp2
      go_ret
      exact ⟨rfl, HC.out.drewN _⟩
#print axioms crcOwn_of
end Go.Proofs.Ytnpbmjjllbjmaaa
