/-
  The document's Seal (quartermasterref04), walked.
-/
import Derived.Test.YtennkpjmdhidaaaCrcR
import Derived.Test.YtennkpjmdhidaaaSame
namespace Go.Proofs.Ytennkpjmdhidaaa
open Go.RowKit
set_option linter.unusedVariables false

/-! ### Seal -/
def sh (s k : Nat) : Nat := s / 256 ^ k
theorem sh_succ (s k : Nat) : sh s (k + 1) = sh s k / 256 := by unfold sh; rw [Nat.pow_succ, Nat.div_div_eq_div_mul]
theorem sh_byte (s k : Nat) : sh s k % 256 = Crc.byteOf s k := rfl
theorem sh_le (s k : Nat) : sh s k ≤ s := Nat.div_le_self _ _
theorem one_row (w : World) {x : Int} {y : Nat} (h : x = (y : Int)) (hy : y < 256) : RowV (w.alloc (.cells #[.int .u8 x] /-t-/5)) (.slice (some ⟨w.heap.size, 0, none⟩) 1 1) 1 (fun _ => y) := by
  subst h
  refine ⟨_, _, rfl, by omega, fun _ => ⟨_, _, rfl, fun c hc => ⟨?_, hy⟩⟩⟩
  rw [cell_of_row _ _ _ _ _ (0, 0) (heap_alloc_new w _)]
  obtain rfl : c = 0 := by omega
  rfl
theorem seal_more (n k : Nat) (z : Nat → Nat) : bytesL (n + k + 1) (jnZ (n + k) (Crc.sealZ n z) (fun _ => Crc.byteOf (Crc.sumZ n z) k)) = bytesL (n + (k + 1)) (Crc.sealZ n z) :=
  bytesL_congr fun c hc => by
    unfold jnZ
    by_cases q : c < n + k
    · rw [if_pos q]
    · rw [if_neg q]
      unfold Crc.sealZ
      rw [if_neg (by omega), show c - n = k by omega]
theorem seal_front (n : Nat) (z : Nat → Nat) : bytesL n z = bytesL n (Crc.sealZ n z) := bytesL_congr fun c hc => by unfold Crc.sealZ; rw [if_pos hc]
set_option maxHeartbeats 1600000 in
set_option maxRecDepth 100000 in
theorem rseal_any (A : Option Addr) (n C : Nat) (z : Nat → Nat) (w : World) (hn : n ≤ 65536) (h : RowV w (.slice A n C) n z) : Calls Try.prog 24 #[.slice A n C] w (NewRow (n + 4) (Crc.sealZ n z) w) := by
  obtain ⟨v1, w1, hr1, ho1, hc1⟩ := app_copy h (by omega)
  have HV := Lib.hid h
  have HR1 := Lib.hid hr1
  have HO1 := Lib.hid ho1
  have HC1 := Lib.hid hc1
  have HSL := Lib.hid (Crc.sumZ_lt h.bytes)
  clear h hr1 ho1 hc1
  go_enter Try.func24, Try.ntmps24
  go_wp2_with fail
  refine (rsum_any _ _ _ z _ HV.out).mono ?_
  rintro e w' ⟨rfl, rfl⟩
  obtain ⟨S, hS⟩ : ∃ S, S = Crc.sumZ n z := ⟨_, rfl⟩
  rw [← hS] at HSL ⊢
  have HSE := Lib.hid hS
  clear hS
  go_wp2_with (at_builtin; refine wpList_app_of _ rfl (.const (.slice none 0 0)) (.tmp 8) rfl rfl (.slice none 0 0) (.slice A n C) v1 w1 rfl rfl HR1.out ?_)
  have hSL : S ≤ 4294967296 := by have := HSL.out; omega
  have H0 := Lib.hid (show (S : Int) = (sh S 0 : Int) by unfold sh; rw [Nat.pow_zero, Nat.div_one])
  go_loopw [3, 4, 5] (fun s v i wr => ∃ k : Nat, k ≤ 4 ∧ i = .int .i64 k ∧ s = .int .i64 (sh S k : Int) ∧ Hid (wr.ownsRow w.heap.size /-t-/5 1 v (n + k) (bytesL (n + k) (Crc.sealZ n z)) ∧ Ch (fun _ => False) w wr)) (fun _ _ i _ => 4 - (intOf i).toNat)
  case atStart => exact ⟨0, Nat.zero_le _, rfl, int_eq H0.out, Lib.hid ⟨by rw [Nat.add_zero, ← seal_front]; exact HO1.out, HC1.out⟩⟩
  case round =>
    obtain ⟨k, hk, rfl, rfl, HK⟩ := hrel
    by_cases hlt : k < 4
    · have HS := Lib.hid (sh_succ S k)
      have hle := sh_le S k
      have hby : ((sh S k : Int) % 256) = (Crc.byteOf S k : Int) := by rw [← sh_byte]; omega
      obtain ⟨v2, w2, hr2, ho2, hg2, _⟩ := app_row (HK.out.1.alloc (.cells #[.int .u8 ((sh S k : Int) % 256)] /-t-/5)) (by simp; have := HK.out.2.size; omega) (one_row wr hby (Crc.byteOf_lt _ _)) (by omega)
      have hcb : ∀ i, u4.ownBlock = some i → (fun _ => False) i ∨ w.heap.size ≤ i := fun i e => Or.inr (World.ownsRow.lt HK.out.1 i e).1
      have HC2 := Lib.hid ((HK.out.2.alloc #[.int .u8 ((sh S k : Int) % 256)] /-t-/5).grown hg2 hcb)
      rw [HSE.out, seal_more] at ho2
      have HO2 := Lib.hid ho2
      have HR2 := Lib.hid hr2
      clear hr2 ho2 hg2 hby hcb
      go_wp2_with (at_builtin; refine wpList_app_of _ rfl (.tmp 14) (.tmp 18) rfl rfl _ _ v2 w2 rfl rfl HR2.out ?_)
      go_roundw
      case rel => exact ⟨k + 1, by omega, by go_num, by rw [HS.out]; go_num, Lib.hid ⟨HO2.out, HC2.out⟩⟩
      case measure => simp [intOf]; omega
    · obtain rfl : k = 4 := by omega
      obtain ⟨g, Cg, rfl, _⟩ := owns_some HK.out.1 (by omega)
      go_wp2
      go_ret
      exact ⟨_, _, rfl, HK.out.1, HK.out.2⟩
#print axioms rseal_any
end Go.Proofs.Ytennkpjmdhidaaa
