/-
  block.lay and head; the document's word (quartermasterref07), walked.
-/
import Derived.Test.YtennkpjmdhidaaaBlkA
import Derived.Test.YtennkpjmdhidaaaCrcS
namespace Go.Proofs.Ytennkpjmdhidaaa
open Go.RowKit
set_option linter.unusedVariables false

/-! ### a row of one's own, and numbers beside it -/
structure LaySt (w0 : World) (g m : Nat) (F : Nat → Nat) (Z : Nat → Nat) (v : Value) (n : Nat) (w : World) : Prop where
  own : w.ownsRow w0.heap.size /-t-/5 1 v n (bytesL n Z)
  ch : Ch (fun _ => False) w0 w
  off : v.ownBlock ≠ some g
  lt : g < w.heap.size
  ints : ∀ i, i < m → w.cell? ⟨g, i, none⟩ = some (.int .i64 (F i : Int))
theorem LaySt.step {w0 w : World} {g m n Y : Nat} {F Z : Nat → Nat} {v : Value} {x : Int} (h : LaySt w0 g m F Z v n w) (hx : x = (Y : Int)) (hY : Z n = Y) (hb : Y < 256) (hn : n ≤ 1000000) :
    ∃ v' w', (Builtin.append_ #[ /-t-/22, /-t-/22] /-t-/22 #[v, .slice (some ⟨w.heap.size, 0, none⟩) 1 1]).run Try.prog (w.alloc (.cells #[.int .u8 x] /-t-/5)) = .ok v' w' ∧ LaySt w0 g m F Z v' (n + 1) w' := by
  obtain ⟨v2, w2, hr2, ho2, hg2, hv2⟩ := app_row (h.own.alloc (.cells #[.int .u8 x] /-t-/5)) (by simp; have := h.ch.size; omega) (one_row w hx hb) (by omega)
  rw [bytesL_congr (y := Z) fun c hc => by
    unfold jnZ
    split
    · rfl
    · obtain rfl : c = n := by omega
      exact hY.symm] at ho2
  have hlt := h.lt
  have hk : Ch (fun j => v.ownBlock = some j) w w2 := ((Ch.refl _ w).alloc #[.int .u8 x] /-t-/5).grown hg2 (fun i e => Or.inl e)
  refine ⟨v2, w2, hr2, ho2, (h.ch.alloc #[.int .u8 x] /-t-/5).grown hg2 (fun i e => Or.inr (World.ownsRow.lt h.own i e).1), ?_, Nat.lt_of_lt_of_le hlt hk.size, fun i hi => hk.cell (h.ints i hi) h.off⟩
  rcases hv2 with e | e
  · rw [e]; exact h.off
  · rw [e]
    intro q
    injection q with q
    simp at q
    omega
theorem layZ_at {k i j wide : Nat} {z F : Nat → Nat} (hj : j < wide) : layZ k z wide F (k + i * wide + j) = Crc.byteOf (F i) j := by
  unfold layZ
  rw [if_neg (by omega), show k + i * wide + j - k = wide * i + j by rw [Nat.mul_comm wide i]; omega, Nat.mul_add_div (by omega), Nat.div_eq_of_lt hj, Nat.add_zero, Nat.mul_add_mod, Nat.mod_eq_of_lt hj]
theorem layZ_front (k : Nat) (z F : Nat → Nat) (wide : Nat) : bytesL k z = bytesL k (layZ k z wide F) := bytesL_congr fun c hc => by unfold layZ; rw [if_pos hc]
set_option maxHeartbeats 1600000 in
set_option maxRecDepth 100000 in
theorem blay_any (w0 : World) (g m k wide : Nat) (F Z : Nat → Nat) (v : Value) (w : World) (h : LaySt w0 g m F Z v k w) (hF : ∀ i, i < m → F i ≤ 4294967295) (hZ : ∀ i j, i < m → j < wide → Z (k + i * wide + j) = Crc.byteOf (F i) j) (hm : m ≤ 8) (hw : wide ≤ 8) (hk : k ≤ 1000) :
    Calls Try.prog 29 #[v, .int .i64 (wide : Int), .slice (some ⟨g, 0, none⟩) m m] w fun e w' => ∃ v', e = .returned v' ∧ LaySt w0 g m F Z v' (k + m * wide) w' := by
  have HS := Lib.hid h
  have HF := Lib.hid hF
  have HZ := Lib.hid hZ
  clear h hF hZ
  go_enter Try.func29, Try.ntmps29
  go_wp2
  go_loopw [0, 8, 11, 15, 16] (fun v' _ i _ _ wr => ∃ r : Nat, r ≤ m ∧ i = .int .i64 r ∧ Hid (LaySt w0 g m F Z v' (k + r * wide) wr)) (fun _ _ i _ _ _ => m - (intOf i).toNat)
  case atStart => exact ⟨0, Nat.zero_le _, rfl, Lib.hid (by rw [Nat.zero_mul]; exact HS.out)⟩
  case round =>
    obtain ⟨r, hr, rfl, HK⟩ := hrel
    by_cases hlt : r < m
    · have c1 := HK.out.ints r hlt
      have tk : decide (r < m) = true := by simp; omega
      have HX := Lib.hid (HF.out r hlt)
      have H0 := Lib.hid (show (F r : Int) = (sh (F r) 0 : Int) by unfold sh; rw [Nat.pow_zero, Nat.div_one])
      have HZr := Lib.hid (fun j => HZ.out r j hlt)
      obtain ⟨x, hx⟩ : ∃ x, x = F r := ⟨_, rfl⟩
      rw [← hx] at c1 HX H0 HZr
      have hxb : x ≤ 4294967295 := HX.out
      clear hx
      go_wp2
      go_loopw [0, 8, 16] (fun v' n j wr => ∃ s : Nat, s ≤ wide ∧ j = .int .i64 s ∧ n = .int .i64 (sh x s : Int) ∧ Hid (LaySt w0 g m F Z v' (k + r * wide + s) wr)) (fun _ _ j _ => wide - (intOf j).toNat)
      case atStart => exact ⟨0, Nat.zero_le _, rfl, int_eq H0.out, HK⟩
      case round =>
        obtain ⟨s, hs, rfl, rfl, HL⟩ := hrel
        by_cases hlt2 : s < wide
        · have tk2 : decide (s < wide) = true := by simp; omega
          have HSS := Lib.hid (sh_succ x s)
          have hle := sh_le x s
          obtain ⟨v2, w2, hr2, h2⟩ := HL.out.step (x := (sh x s : Int) % 256) (Y := Crc.byteOf x s) (by rw [← sh_byte]; omega) (HZr.out s hlt2) (Crc.byteOf_lt _ _) (by
            have : r * wide ≤ 8 * 8 := Nat.mul_le_mul (by omega) hw
            omega)
          have HR2 := Lib.hid hr2
          have HL2 := Lib.hid h2
          clear hr2 h2
          go_wp2_with (at_builtin; refine wpList_app_of _ rfl (.tmp 18) (.tmp 21) rfl rfl _ _ v2 w2 rfl rfl HR2.out ?_)
          go_roundw
          case rel => exact ⟨s + 1, by omega, by go_num, by rw [HSS.out]; go_num, HL2⟩
          case measure => simp [intOf]; omega
        · obtain rfl : s = wide := by omega
          have HE := Lib.hid (show k + r * s + s = k + (r + 1) * s by rw [Nat.add_mul]; omega)
          have tk2 : decide (s < s) = false := by simp
          go_wp2
          go_roundw
          case rel => exact ⟨r + 1, by omega, by go_num, Lib.hid (by rw [← HE.out]; exact HL.out)⟩
          case measure => simp [intOf]; omega
    · obtain rfl : r = m := by omega
      have tk : decide (r < r) = false := by simp
      go_wp2
      go_ret
      exact ⟨_, rfl, HK.out⟩
#print axioms blay_any

/-! ### word -/
set_option maxHeartbeats 1600000 in
set_option maxRecDepth 100000 in
theorem word_any (x wide : Nat) (w : World) (hx : x ≤ 4294967295) (hw : wide ≤ 8) : Calls Try.prog 23 #[.int .i64 (x : Int), .int .i64 (wide : Int)] w fun e w' => ∃ v, e = .returned v ∧ w'.ownsRow w.heap.size /-t-/5 1 v wide (bytesL wide (Crc.byteOf x)) ∧ Ch (fun _ => False) w w' := by
  have HX := Lib.hid hx
  have H0 := Lib.hid (show (x : Int) = (sh x 0 : Int) by unfold sh; rw [Nat.pow_zero, Nat.div_one])
  go_enter Try.func23, Try.ntmps23
  go_wp2
  go_loopw [0, 5, 6] (fun n v i wr => ∃ s : Nat, s ≤ wide ∧ i = .int .i64 s ∧ n = .int .i64 (sh x s : Int) ∧ Hid (wr.ownsRow w.heap.size /-t-/5 1 v s (bytesL s (Crc.byteOf x)) ∧ Ch (fun _ => False) w wr)) (fun _ _ i _ => wide - (intOf i).toNat)
  case atStart => exact ⟨0, Nat.zero_le _, rfl, int_eq H0.out, Lib.hid ⟨World.ownsRow_nil _ _ _ _, Ch.refl _ _⟩⟩
  case round =>
    obtain ⟨s, hs, rfl, rfl, HK⟩ := hrel
    by_cases hlt : s < wide
    · have tk : decide (s < wide) = true := by simp; omega
      have HSS := Lib.hid (sh_succ x s)
      have hle := sh_le x s
      have hby : ((sh x s : Int) % 256) = (Crc.byteOf x s : Int) := by rw [← sh_byte]; omega
      obtain ⟨v2, w2, hr2, ho2, hg2, _⟩ := app_row (HK.out.1.alloc (.cells #[.int .u8 ((sh x s : Int) % 256)] /-t-/5)) (by simp; have := HK.out.2.size; omega) (one_row wr hby (Crc.byteOf_lt _ _)) (by omega)
      have HC2 := Lib.hid ((HK.out.2.alloc #[.int .u8 ((sh x s : Int) % 256)] /-t-/5).grown hg2 (fun i e => Or.inr (World.ownsRow.lt HK.out.1 i e).1))
      rw [bytesL_congr (y := Crc.byteOf x) fun c hc => by
        unfold jnZ
        split
        · rfl
        · obtain rfl : c = s := by omega
          rfl] at ho2
      have HO2 := Lib.hid ho2
      have HR2 := Lib.hid hr2
      clear hr2 ho2 hg2 hby
      go_wp2_with (at_builtin; refine wpList_app_of _ rfl (.tmp 12) (.tmp 16) rfl rfl _ _ v2 w2 rfl rfl HR2.out ?_)
      go_roundw
      case rel => exact ⟨s + 1, by omega, by go_num, by rw [HSS.out]; go_num, Lib.hid ⟨HO2.out, HC2.out⟩⟩
      case measure => simp [intOf]; omega
    · obtain rfl : s = wide := by omega
      have tk : decide (s < s) = false := by simp
      go_wp2
      go_ret
      exact ⟨_, rfl, HK.out.1, HK.out.2⟩
#print axioms word_any
end Go.Proofs.Ytennkpjmdhidaaa
