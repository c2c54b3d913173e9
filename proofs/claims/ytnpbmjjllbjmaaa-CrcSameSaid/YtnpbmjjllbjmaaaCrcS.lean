/-
  The document's Same, Seal and Whole (quartermasterref04), and the chapter's examples (awake), walked.
-/
import Derived.Test.YtnpbmjjllbjmaaaCrcR
namespace Go.Proofs.Ytnpbmjjllbjmaaa
open Go.RowKit
set_option linter.unusedVariables false

/-! ### Same -/
theorem RowV.at {w : World} {A : Option Addr} {n C : Nat} {z : Nat → Nat} (h : RowV w (.slice A n C) n z) (hn : 0 < n) : ∃ b o, A = some ⟨b, o, none⟩ ∧ ∀ c, c < n → w.cell? ⟨b, o + c, none⟩ = some (.int .u8 (z c : Int)) := by
  obtain ⟨_, _, e, _, h3⟩ := h
  injection e with e _ _
  subst e
  obtain ⟨b, o, rfl, h4⟩ := h3 hn
  exact ⟨b, o, rfl, fun c hc => (h4 c hc).1⟩
set_option maxHeartbeats 800000 in
set_option maxRecDepth 100000 in
theorem same_any (A B : Option Addr) (n m C D : Nat) (z y : Nat → Nat) (w : World) (h : RowV w (.slice A n C) n z) (h2 : RowV w (.slice B m D) m y) : Calls Try.prog 9 #[.slice A n C, .slice B m D] w (Qu (.bool (eqB n m z y)) w) := by
  obtain ⟨_, _, _, hl, _⟩ := id h
  have hl1 := hl.1
  obtain ⟨_, _, _, hm, _⟩ := id h2
  have hm1 := hm.1
  clear hl hm
  by_cases e : n = m
  · subst e
    have t1 : ((n : Int) != (n : Int)) = false := by simp
    have HV := Lib.hid h
    have HV2 := Lib.hid h2
    clear h h2
    go_enter Try.func9, Try.ntmps9
    go_wp2
    go_loopw [5] (fun i wr => ∃ k : Nat, k ≤ n ∧ i = .int .i64 k ∧ (∃ d, wr = w.drewN d) ∧ Hid (∀ c, c < k → z c = y c)) (fun i _ => n - (intOf i).toNat)
    case atStart => exact ⟨0, Nat.zero_le _, rfl, ⟨0, rfl⟩, fun c hc => absurd hc (Nat.not_lt_zero c)⟩
    case round =>
      obtain ⟨k, hk, rfl, ⟨d, rfl⟩, HK⟩ := hrel
      by_cases hlt : k < n
      · obtain ⟨b, o, rfl, hc⟩ := HV.out.at (by omega)
        obtain ⟨b2, o2, rfl, hc2⟩ := HV2.out.at (by omega)
        have c1 := hc k hlt
        have c2 := hc2 k hlt
        have i1 : (0 : Int) ≤ (k : Int) := Int.natCast_nonneg _
        have i2 : (k : Int) < (n : Int) := by omega
        clear hc hc2
        by_cases q : z k = y k
        · have t2 : ((z k : Int) != (y k : Int)) = false := by simp [q]
          have HS : Hid (∀ c, c < k + 1 → z c = y c) := fun c hc => by
            by_cases e : c = k
            · rw [e]; exact q
            · exact HK c (by omega)
          clear q
          go_wp2
          go_quiet (fail)
          go_wp2
          go_roundw
          case rel => exact ⟨k + 1, by omega, by go_num, ⟨_, rfl⟩, HS⟩
          case measure => simp [intOf]; omega
        · have t2 : ((z k : Int) != (y k : Int)) = true := by simp; omega
          have HS := Lib.hid (show eqB n n z y = false from decide_eq_false fun h => q (h.2 k hlt))
          clear q
          go_wp2
          go_quiet (fail)
          go_wp2
          go_ret
          exact ⟨ret_bool HS.out.symm, _, World.drewN_drewN _ _ _⟩
      · obtain rfl : k = n := by omega
        have HS := Lib.hid (show eqB k k z y = true from decide_eq_true ⟨rfl, HK.out⟩)
        go_wp2
        go_ret
        exact ⟨ret_bool HS.out.symm, _, rfl⟩
  · have t1 : ((n : Int) != (m : Int)) = true := by simp; omega
    have HS := Lib.hid (show eqB n m z y = false from decide_eq_false fun h => e h.1)
    clear e h h2
    go_enter Try.func9, Try.ntmps9
    go_wp2
    go_ret
    exact ⟨ret_bool HS.out.symm, 0, rfl⟩
#print axioms same_any

/-! ### Seal -/
def sh (s k : Nat) : Nat := s / 256 ^ k
theorem sh_succ (s k : Nat) : sh s (k + 1) = sh s k / 256 := by unfold sh; rw [Nat.pow_succ, Nat.div_div_eq_div_mul]
theorem sh_byte (s k : Nat) : sh s k % 256 = Crc.byteOf s k := rfl
theorem sh_le (s k : Nat) : sh s k ≤ s := Nat.div_le_self _ _
theorem one_row (w : World) {x : Int} {y : Nat} (h : x = (y : Int)) (hy : y < 256) : RowV (w.alloc (.cells #[.int .u8 x] /-t-/5)) (.slice (some ⟨w.heap.size, 0, none⟩) 1 1) 1 (fun _ => y) := by
  subst h
  refine ⟨_, _, rfl, by omega, fun _ => ⟨_, _, rfl, fun c hc => ⟨?_, hy⟩⟩⟩
  rw [cell_of_row _ _ _ _ _ (0, 0) (heap_alloc_new w _)]
  obtain rfl : c = 0 := by omega
  rfl
theorem seal_more (n k : Nat) (z : Nat → Nat) : bytesL (n + k + 1) (jnZ (n + k) (Crc.sealZ n z) (fun _ => Crc.byteOf (Crc.sumZ n z) k)) = bytesL (n + (k + 1)) (Crc.sealZ n z) :=
  bytesL_congr fun c hc => by
    unfold jnZ
    by_cases q : c < n + k
    · rw [if_pos q]
    · rw [if_neg q]
      unfold Crc.sealZ
      rw [if_neg (by omega), show c - n = k by omega]
theorem seal_front (n : Nat) (z : Nat → Nat) : bytesL n z = bytesL n (Crc.sealZ n z) := bytesL_congr fun c hc => by unfold Crc.sealZ; rw [if_pos hc]
set_option maxHeartbeats 1600000 in
set_option maxRecDepth 100000 in
theorem rseal_any (A : Option Addr) (n C : Nat) (z : Nat → Nat) (w : World) (hn : n ≤ 65536) (h : RowV w (.slice A n C) n z) : Calls Try.prog 11 #[.slice A n C] w (NewRow (n + 4) (Crc.sealZ n z) w) := by
  obtain ⟨v1, w1, hr1, ho1, hc1⟩ := app_copy h (by omega)
  have HV := Lib.hid h
  have HR1 := Lib.hid hr1
  have HO1 := Lib.hid ho1
  have HC1 := Lib.hid hc1
  have HSL := Lib.hid (Crc.sumZ_lt h.bytes)
  clear h hr1 ho1 hc1
  go_enter Try.func11, Try.ntmps11
  go_wp2_with fail
  refine (rsum_any _ _ _ z _ HV.out).mono ?_
  rintro e w' ⟨rfl, rfl⟩
  obtain ⟨S, hS⟩ : ∃ S, S = Crc.sumZ n z := ⟨_, rfl⟩
  rw [← hS] at HSL ⊢
  have HSE := Lib.hid hS
  clear hS
  go_wp2_with (at_builtin; refine wpList_app_of _ rfl (.const (.slice none 0 0)) (.tmp 8) rfl rfl (.slice none 0 0) (.slice A n C) v1 w1 rfl rfl HR1.out ?_)
  have hSL : S ≤ 4294967296 := by have := HSL.out; omega
  have H0 := Lib.hid (show (S : Int) = (sh S 0 : Int) by unfold sh; rw [Nat.pow_zero, Nat.div_one])
  go_loopw [3, 4, 5] (fun s v i wr => ∃ k : Nat, k ≤ 4 ∧ i = .int .i64 k ∧ s = .int .i64 (sh S k : Int) ∧ Hid (wr.ownsRow w.heap.size /-t-/5 1 v (n + k) (bytesL (n + k) (Crc.sealZ n z)) ∧ Ch (fun _ => False) w wr)) (fun _ _ i _ => 4 - (intOf i).toNat)
  case atStart => exact ⟨0, Nat.zero_le _, rfl, int_eq H0.out, Lib.hid ⟨by rw [Nat.add_zero, ← seal_front]; exact HO1.out, HC1.out⟩⟩
  case round =>
    obtain ⟨k, hk, rfl, rfl, HK⟩ := hrel
    by_cases hlt : k < 4
    · have HS := Lib.hid (sh_succ S k)
      have hle := sh_le S k
      have hby : ((sh S k : Int) % 256) = (Crc.byteOf S k : Int) := by rw [← sh_byte]; omega
      obtain ⟨v2, w2, hr2, ho2, hg2, _⟩ := app_row (HK.out.1.alloc (.cells #[.int .u8 ((sh S k : Int) % 256)] /-t-/5)) (by simp; have := HK.out.2.size; omega) (one_row wr hby (Crc.byteOf_lt _ _)) (by omega)
      have hcb : ∀ i, u4.ownBlock = some i → (fun _ => False) i ∨ w.heap.size ≤ i := fun i e => Or.inr (World.ownsRow.lt HK.out.1 i e).1
      have HC2 := Lib.hid ((HK.out.2.alloc #[.int .u8 ((sh S k : Int) % 256)] /-t-/5).grown hg2 hcb)
      rw [HSE.out, seal_more] at ho2
      have HO2 := Lib.hid ho2
      have HR2 := Lib.hid hr2
      clear hr2 ho2 hg2 hby hcb
      go_wp2_with (at_builtin; refine wpList_app_of _ rfl (.tmp 14) (.tmp 18) rfl rfl _ _ v2 w2 rfl rfl HR2.out ?_)
      go_roundw
      case rel => exact ⟨k + 1, by omega, by go_num, by rw [HS.out]; go_num, Lib.hid ⟨HO2.out, HC2.out⟩⟩
      case measure => simp [intOf]; omega
    · obtain rfl : k = 4 := by omega
      obtain ⟨g, Cg, rfl, _⟩ := owns_some HK.out.1 (by omega)
      go_wp2
      go_ret
      exact ⟨_, _, rfl, HK.out.1, HK.out.2⟩
#print axioms rseal_any
end Go.Proofs.Ytnpbmjjllbjmaaa
