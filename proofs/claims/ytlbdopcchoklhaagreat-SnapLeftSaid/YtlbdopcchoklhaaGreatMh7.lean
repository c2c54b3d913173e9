/-
  The document's Seal (quartermasterref04), walked. block.lay and head; the document's word (quartermasterref07), walked. block.head and Seal, walked.
-/
import Derived.Test.YtlbdopcchoklhaaGreatMh6
import Derived.Test.YtlbdopcchoklhaaGreatMh5
namespace Go.Proofs.YtlbdopcchoklhaaGreat
open Go.RowKit
set_option linter.unusedVariables false
set_option maxRecDepth 100000

/-! ### Seal -/
def sh (s k : Nat) : Nat := s / 256 ^ k
theorem sh_succ (s k : Nat) : sh s (k + 1) = sh s k / 256 := by unfold sh; rw [Nat.pow_succ, Nat.div_div_eq_div_mul]
theorem sh_byte (s k : Nat) : sh s k % 256 = Crc.byteOf s k := rfl
theorem sh_le (s k : Nat) : sh s k ≤ s := Nat.div_le_self _ _
theorem one_row (w : World) {x : Int} {y : Nat} (h : x = (y : Int)) (hy : y < 256) : RowV (w.alloc (.cells #[.int .u8 x] /-t-/5)) (.slice (some ⟨w.heap.size, 0, none⟩) 1 1) 1 (fun _ => y) := by
  subst h
  refine ⟨_, _, rfl, by omega, fun _ => ⟨_, _, rfl, fun c hc => ⟨?_, hy⟩⟩⟩
  rw [cell_of_row _ _ _ _ _ (0, 0) (heap_alloc_new w _)]
  obtain rfl : c = 0 := by omega
  rfl
theorem seal_more (n k : Nat) (z : Nat → Nat) : bytesL (n + k + 1) (jnZ (n + k) (Crc.sealZ n z) (fun _ => Crc.byteOf (Crc.sumZ n z) k)) = bytesL (n + (k + 1)) (Crc.sealZ n z) :=
  bytesL_congr fun c hc => by
    unfold jnZ
    by_cases q : c < n + k
    · rw [if_pos q]
    · rw [if_neg q]
      unfold Crc.sealZ
      rw [if_neg (by omega), show c - n = k by omega]
theorem seal_front (n : Nat) (z : Nat → Nat) : bytesL n z = bytesL n (Crc.sealZ n z) := bytesL_congr fun c hc => by unfold Crc.sealZ; rw [if_pos hc]
set_option maxHeartbeats 1600000 in
set_option maxRecDepth 100000 in
theorem rseal_any (A : Option Addr) (n C : Nat) (z : Nat → Nat) (w : World) (hn : n ≤ 65536) (h : RowV w (.slice A n C) n z) : Calls Tryz.prog 74 #[.slice A n C] w (NewRow (n + 4) (Crc.sealZ n z) w) := by
  obtain ⟨v1, w1, hr1, ho1, hc1⟩ := app_copy h (by omega)
  have HV := Lib.hid h
  have HR1 := Lib.hid hr1
  have HO1 := Lib.hid ho1
  have HC1 := Lib.hid hc1
  have HSL := Lib.hid (Crc.sumZ_lt h.bytes)
  clear h hr1 ho1 hc1
  go_enter Tryz.func74, Tryz.ntmps74
  go_wp2_with fail
  refine (rsum_any _ _ _ z _ HV.out).mono ?_
  rintro e w' ⟨rfl, rfl⟩
  obtain ⟨S, hS⟩ : ∃ S, S = Crc.sumZ n z := ⟨_, rfl⟩
  rw [← hS] at HSL ⊢
  have HSE := Lib.hid hS
  clear hS
  go_wp2_with (at_builtin; refine wpList_app_of _ rfl (.const (.slice none 0 0)) (.tmp 8) rfl rfl (.slice none 0 0) (.slice A n C) v1 w1 rfl rfl HR1.out ?_)
  have hSL : S ≤ 4294967296 := by have := HSL.out; omega
  have H0 := Lib.hid (show (S : Int) = (sh S 0 : Int) by unfold sh; rw [Nat.pow_zero, Nat.div_one])
  go_loopw [3, 4, 5] (fun s v i wr => ∃ k : Nat, k ≤ 4 ∧ i = .int .i64 k ∧ s = .int .i64 (sh S k : Int) ∧ Hid (wr.ownsRow w.heap.size /-t-/5 1 v (n + k) (bytesL (n + k) (Crc.sealZ n z)) ∧ Ch (fun _ => False) w wr)) (fun _ _ i _ => 4 - (intOf i).toNat)
  case atStart => exact ⟨0, Nat.zero_le _, rfl, int_eq H0.out, Lib.hid ⟨by rw [Nat.add_zero, ← seal_front]; exact HO1.out, HC1.out⟩⟩
  case round =>
    obtain ⟨k, hk, rfl, rfl, HK⟩ := hrel
    by_cases hlt : k < 4
    · have HS := Lib.hid (sh_succ S k)
      have hle := sh_le S k
      have hby : ((sh S k : Int) % 256) = (Crc.byteOf S k : Int) := by rw [← sh_byte]; omega
      obtain ⟨v2, w2, hr2, ho2, hg2, _⟩ := app_row (HK.out.1.alloc (.cells #[.int .u8 ((sh S k : Int) % 256)] /-t-/5)) (by simp; have := HK.out.2.size; omega) (one_row wr hby (Crc.byteOf_lt _ _)) (by omega)
      have hcb : ∀ i, u4.ownBlock = some i → (fun _ => False) i ∨ w.heap.size ≤ i := fun i e => Or.inr (World.ownsRow.lt HK.out.1 i e).1
      have HC2 := Lib.hid ((HK.out.2.alloc #[.int .u8 ((sh S k : Int) % 256)] /-t-/5).grown hg2 hcb)
      rw [HSE.out, seal_more] at ho2
      have HO2 := Lib.hid ho2
      have HR2 := Lib.hid hr2
      clear hr2 ho2 hg2 hby hcb
      go_wp2_with (at_builtin; refine wpList_app_of _ rfl (.tmp 14) (.tmp 18) rfl rfl _ _ v2 w2 rfl rfl HR2.out ?_)
      go_roundw
      case rel => exact ⟨k + 1, by omega, by go_num, by rw [HS.out]; go_num, Lib.hid ⟨HO2.out, HC2.out⟩⟩
      case measure => simp [intOf]; omega
    · obtain rfl : k = 4 := by omega
      obtain ⟨g, Cg, rfl, _⟩ := owns_some HK.out.1 (by omega)
      go_wp2
      go_ret
      exact ⟨_, _, rfl, HK.out.1, HK.out.2⟩
end Go.Proofs.YtlbdopcchoklhaaGreat
namespace Go.Proofs.YtlbdopcchoklhaaGreat
open Go.RowKit
set_option linter.unusedVariables false
set_option maxRecDepth 100000

/-! ### a row of one's own, and numbers beside it -/
structure LaySt (w0 : World) (g m : Nat) (F : Nat → Nat) (Z : Nat → Nat) (v : Value) (n : Nat) (w : World) : Prop where
  own : w.ownsRow w0.heap.size /-t-/5 1 v n (bytesL n Z)
  ch : Ch (fun _ => False) w0 w
  off : v.ownBlock ≠ some g
  lt : g < w.heap.size
  ints : ∀ i, i < m → w.cell? ⟨g, i, none⟩ = some (.int .i64 (F i : Int))
theorem LaySt.step {w0 w : World} {g m n Y : Nat} {F Z : Nat → Nat} {v : Value} {x : Int} (h : LaySt w0 g m F Z v n w) (hx : x = (Y : Int)) (hY : Z n = Y) (hb : Y < 256) (hn : n ≤ 1000000) :
    ∃ v' w', (Builtin.append_ #[ /-t-/24, /-t-/24] /-t-/24 #[v, .slice (some ⟨w.heap.size, 0, none⟩) 1 1]).run Tryz.prog (w.alloc (.cells #[.int .u8 x] /-t-/5)) = .ok v' w' ∧ LaySt w0 g m F Z v' (n + 1) w' := by
  obtain ⟨v2, w2, hr2, ho2, hg2, hv2⟩ := app_row (h.own.alloc (.cells #[.int .u8 x] /-t-/5)) (by simp; have := h.ch.size; omega) (one_row w hx hb) (by omega)
  rw [bytesL_congr (y := Z) fun c hc => by
    unfold jnZ
    split
    · rfl
    · obtain rfl : c = n := by omega
      exact hY.symm] at ho2
  have hlt := h.lt
  have hk : Ch (fun j => v.ownBlock = some j) w w2 := ((Ch.refl _ w).alloc #[.int .u8 x] /-t-/5).grown hg2 (fun i e => Or.inl e)
  refine ⟨v2, w2, hr2, ho2, (h.ch.alloc #[.int .u8 x] /-t-/5).grown hg2 (fun i e => Or.inr (World.ownsRow.lt h.own i e).1), ?_, Nat.lt_of_lt_of_le hlt hk.size, fun i hi => hk.cell (h.ints i hi) h.off⟩
  rcases hv2 with e | e
  · rw [e]; exact h.off
  · rw [e]
    intro q
    injection q with q
    simp at q
    omega
theorem layZ_at {k i j wide : Nat} {z F : Nat → Nat} (hj : j < wide) : layZ k z wide F (k + i * wide + j) = Crc.byteOf (F i) j := by
  unfold layZ
  rw [if_neg (by omega), show k + i * wide + j - k = wide * i + j by rw [Nat.mul_comm wide i]; omega, Nat.mul_add_div (by omega), Nat.div_eq_of_lt hj, Nat.add_zero, Nat.mul_add_mod, Nat.mod_eq_of_lt hj]
set_option maxHeartbeats 1600000 in
set_option maxRecDepth 100000 in
theorem blay_any (w0 : World) (g m k wide : Nat) (F Z : Nat → Nat) (v : Value) (w : World) (h : LaySt w0 g m F Z v k w) (hF : ∀ i, i < m → F i ≤ 4294967295) (hZ : ∀ i j, i < m → j < wide → Z (k + i * wide + j) = Crc.byteOf (F i) j) (hm : m ≤ 8) (hw : wide ≤ 8) (hk : k ≤ 1000) :
    Calls Tryz.prog 106 #[v, .int .i64 (wide : Int), .slice (some ⟨g, 0, none⟩) m m] w fun e w' => ∃ v', e = .returned v' ∧ LaySt w0 g m F Z v' (k + m * wide) w' := by
  have HS := Lib.hid h
  have HF := Lib.hid hF
  have HZ := Lib.hid hZ
  clear h hF hZ
  go_enter Tryz.func106, Tryz.ntmps106
  go_wp2
  go_loopw [0, 8, 11, 15, 16] (fun v' _ i _ _ wr => ∃ r : Nat, r ≤ m ∧ i = .int .i64 r ∧ Hid (LaySt w0 g m F Z v' (k + r * wide) wr)) (fun _ _ i _ _ _ => m - (intOf i).toNat)
  case atStart => exact ⟨0, Nat.zero_le _, rfl, Lib.hid (by rw [Nat.zero_mul]; exact HS.out)⟩
  case round =>
    obtain ⟨r, hr, rfl, HK⟩ := hrel
    by_cases hlt : r < m
    · have c1 := HK.out.ints r hlt
      have tk : decide (r < m) = true := by simp; omega
      have HX := Lib.hid (HF.out r hlt)
      have H0 := Lib.hid (show (F r : Int) = (sh (F r) 0 : Int) by unfold sh; rw [Nat.pow_zero, Nat.div_one])
      have HZr := Lib.hid (fun j => HZ.out r j hlt)
      obtain ⟨x, hx⟩ : ∃ x, x = F r := ⟨_, rfl⟩
      rw [← hx] at c1 HX H0 HZr
      have hxb : x ≤ 4294967295 := HX.out
      clear hx
      go_wp2
      go_loopw [0, 8, 16] (fun v' n j wr => ∃ s : Nat, s ≤ wide ∧ j = .int .i64 s ∧ n = .int .i64 (sh x s : Int) ∧ Hid (LaySt w0 g m F Z v' (k + r * wide + s) wr)) (fun _ _ j _ => wide - (intOf j).toNat)
      case atStart => exact ⟨0, Nat.zero_le _, rfl, int_eq H0.out, HK⟩
      case round =>
        obtain ⟨s, hs, rfl, rfl, HL⟩ := hrel
        by_cases hlt2 : s < wide
        · have tk2 : decide (s < wide) = true := by simp; omega
          have HSS := Lib.hid (sh_succ x s)
          have hle := sh_le x s
          obtain ⟨v2, w2, hr2, h2⟩ := HL.out.step (x := (sh x s : Int) % 256) (Y := Crc.byteOf x s) (by rw [← sh_byte]; omega) (HZr.out s hlt2) (Crc.byteOf_lt _ _) (by
            have : r * wide ≤ 8 * 8 := Nat.mul_le_mul (by omega) hw
            omega)
          have HR2 := Lib.hid hr2
          have HL2 := Lib.hid h2
          clear hr2 h2
          go_wp2_with (at_builtin; refine wpList_app_of _ rfl (.tmp 18) (.tmp 21) rfl rfl _ _ v2 w2 rfl rfl HR2.out ?_)
          go_roundw
          case rel => exact ⟨s + 1, by omega, by go_num, by rw [HSS.out]; go_num, HL2⟩
          case measure => simp [intOf]; omega
        · obtain rfl : s = wide := by omega
          have HE := Lib.hid (show k + r * s + s = k + (r + 1) * s by rw [Nat.add_mul]; omega)
          have tk2 : decide (s < s) = false := by simp
          go_wp2
          go_roundw
          case rel => exact ⟨r + 1, by omega, by go_num, Lib.hid (by rw [← HE.out]; exact HL.out)⟩
          case measure => simp [intOf]; omega
    · obtain rfl : r = m := by omega
      have tk : decide (r < r) = false := by simp
      go_wp2
      go_ret
      exact ⟨_, rfl, HK.out⟩
/-! ### word -/
set_option maxHeartbeats 1600000 in
set_option maxRecDepth 100000 in
theorem word_any (x wide : Nat) (w : World) (hx : x ≤ 4294967295) (hw : wide ≤ 8) : Calls Tryz.prog 73 #[.int .i64 (x : Int), .int .i64 (wide : Int)] w fun e w' => ∃ v, e = .returned v ∧ w'.ownsRow w.heap.size /-t-/5 1 v wide (bytesL wide (Crc.byteOf x)) ∧ Ch (fun _ => False) w w' := by
  have HX := Lib.hid hx
  have H0 := Lib.hid (show (x : Int) = (sh x 0 : Int) by unfold sh; rw [Nat.pow_zero, Nat.div_one])
  go_enter Tryz.func73, Tryz.ntmps73
  go_wp2
  go_loopw [0, 5, 6] (fun n v i wr => ∃ s : Nat, s ≤ wide ∧ i = .int .i64 s ∧ n = .int .i64 (sh x s : Int) ∧ Hid (wr.ownsRow w.heap.size /-t-/5 1 v s (bytesL s (Crc.byteOf x)) ∧ Ch (fun _ => False) w wr)) (fun _ _ i _ => wide - (intOf i).toNat)
  case atStart => exact ⟨0, Nat.zero_le _, rfl, int_eq H0.out, Lib.hid ⟨World.ownsRow_nil _ _ _ _, Ch.refl _ _⟩⟩
  case round =>
    obtain ⟨s, hs, rfl, rfl, HK⟩ := hrel
    by_cases hlt : s < wide
    · have tk : decide (s < wide) = true := by simp; omega
      have HSS := Lib.hid (sh_succ x s)
      have hle := sh_le x s
      have hby : ((sh x s : Int) % 256) = (Crc.byteOf x s : Int) := by rw [← sh_byte]; omega
      obtain ⟨v2, w2, hr2, ho2, hg2, _⟩ := app_row (HK.out.1.alloc (.cells #[.int .u8 ((sh x s : Int) % 256)] /-t-/5)) (by simp; have := HK.out.2.size; omega) (one_row wr hby (Crc.byteOf_lt _ _)) (by omega)
      have HC2 := Lib.hid ((HK.out.2.alloc #[.int .u8 ((sh x s : Int) % 256)] /-t-/5).grown hg2 (fun i e => Or.inr (World.ownsRow.lt HK.out.1 i e).1))
      rw [bytesL_congr (y := Crc.byteOf x) fun c hc => by
        unfold jnZ
        split
        · rfl
        · obtain rfl : c = s := by omega
          rfl] at ho2
      have HO2 := Lib.hid ho2
      have HR2 := Lib.hid hr2
      clear hr2 ho2 hg2 hby
      go_wp2_with (at_builtin; refine wpList_app_of _ rfl (.tmp 12) (.tmp 16) rfl rfl _ _ v2 w2 rfl rfl HR2.out ?_)
      go_roundw
      case rel => exact ⟨s + 1, by omega, by go_num, by rw [HSS.out]; go_num, Lib.hid ⟨HO2.out, HC2.out⟩⟩
      case measure => simp [intOf]; omega
    · obtain rfl : s = wide := by omega
      have tk : decide (s < s) = false := by simp
      go_wp2
      go_ret
      exact ⟨_, rfl, HK.out.1, HK.out.2⟩
end Go.Proofs.YtlbdopcchoklhaaGreat
namespace Go.Proofs.YtlbdopcchoklhaaGreat
open Go.RowKit
set_option linter.unusedVariables false
set_option maxRecDepth 100000

/-! ### head -/
theorem LaySt.next {w0 w : World} {g m n m' : Nat} {F F' Z : Nat → Nat} {v : Value} {cs : Array Value} (h : LaySt w0 g m F Z v n w) (hc : ∀ i, i < m' → cs[i]? = some (.int .i64 (F' i : Int))) : LaySt w0 w.heap.size m' F' Z v n (w.alloc (.cells cs 3)) :=
  ⟨h.own.alloc _, h.ch.alloc _ _, fun e => by have := (World.ownsRow.lt h.own _ e).2; omega, by simp, fun i hi => by
    rw [cell_of_row _ _ _ _ _ (0, 0) (heap_alloc_new w _)]
    exact hc i hi⟩
theorem LaySt.first {w0 w : World} {m' : Nat} {F' Z : Nat → Nat} {cs : Array Value} (h : Ch (fun _ => False) w0 w) (hc : ∀ i, i < m' → cs[i]? = some (.int .i64 (F' i : Int))) : LaySt w0 w.heap.size m' F' Z (.slice none 0 0) 0 (w.alloc (.cells cs 3)) :=
  ⟨World.ownsRow_nil _ _ _ _, h.alloc _ _, (fun e => by cases e), by simp, fun i hi => by
    rw [cell_of_row _ _ _ _ _ (0, 0) (heap_alloc_new w _)]
    exact hc i hi⟩
theorem layZ_lo {k c wide : Nat} {z F : Nat → Nat} (h : c < k) : layZ k z wide F c = z c := by unfold layZ; rw [if_pos h]
theorem headZ_1 (b : Bk) (i j : Nat) (hi : i < 4) (hj : j < 1) : headZ b (0 + i * 1 + j) = Crc.byteOf (f1 b i) j := by
  unfold headZ
  rw [layZ_lo (by omega), layZ_lo (by omega)]
  exact layZ_at hj
theorem headZ_2 (b : Bk) (i j : Nat) (hi : i < 4) (hj : j < 4) : headZ b (4 + i * 4 + j) = Crc.byteOf (f2 b i) j := by
  unfold headZ
  rw [layZ_lo (by omega)]
  exact layZ_at hj
theorem headZ_3 (b : Bk) (i j : Nat) (hj : j < 2) : headZ b (20 + i * 2 + j) = Crc.byteOf (f3 b i) j := layZ_at hj
theorem lit4 {F : Nat → Nat} {x0 x1 x2 x3 : Int} (h0 : x0 = (F 0 : Int)) (h1 : x1 = (F 1 : Int)) (h2 : x2 = (F 2 : Int)) (h3 : x3 = (F 3 : Int)) : ∀ i, i < 4 → (#[Value.int .i64 x0, .int .i64 x1, .int .i64 x2, .int .i64 x3] : Array Value)[i]? = some (.int .i64 (F i : Int)) := fun i hi => by
  subst h0 h1 h2 h3
  match i, hi with
  | 0, _ => rfl
  | 1, _ => rfl
  | 2, _ => rfl
  | 3, _ => rfl
theorem lit2 {F : Nat → Nat} {x0 x1 : Int} (h0 : x0 = (F 0 : Int)) (h1 : x1 = (F 1 : Int)) : ∀ i, i < 2 → (#[Value.int .i64 x0, .int .i64 x1] : Array Value)[i]? = some (.int .i64 (F i : Int)) := fun i hi => by
  subst h0 h1
  match i, hi with
  | 0, _ => rfl
  | 1, _ => rfl
theorem four_le {F : Nat → Nat} (h0 : F 0 ≤ 4294967295) (h1 : F 1 ≤ 4294967295) (h2 : F 2 ≤ 4294967295) (h3 : F 3 ≤ 4294967295) : ∀ i, i < 4 → F i ≤ 4294967295 := fun i hi => by
  match i, hi with
  | 0, _ => exact h0
  | 1, _ => exact h1
  | 2, _ => exact h2
  | 3, _ => exact h3
set_option maxHeartbeats 1600000 in
set_option maxRecDepth 100000 in
theorem head_any (b : Bk) (A : Option Addr) (C : Nat) (w : World) (hV : b.V = .slice A b.len C) (hn : Num b) (hl : b.len ≤ 228) : Calls Tryz.prog 67 #[.agg (bkC b)] w (NewRow 24 (headZ b) w) := by
  obtain ⟨w1, H, hR⟩ := bkR w b
  have x0 : w1.cell? ⟨H, 0, none⟩ = some (.int .i64 b.kind) := hR.at 0
  have x1 : w1.cell? ⟨H, 1, none⟩ = some (.int .i64 b.vol) := hR.at 1
  have x2 : w1.cell? ⟨H, 2, none⟩ = some (.int .i64 b.addr) := hR.at 2
  have x3 : w1.cell? ⟨H, 3, none⟩ = some (.int .i64 b.epoch) := hR.at 3
  have x4 : w1.cell? ⟨H, 4, none⟩ = some (.int .i64 b.seq) := hR.at 4
  have x5 : w1.cell? ⟨H, 5, none⟩ = some (.slice A b.len C) := by rw [← hV]; exact hR.at 5
  have HR := Lib.hid hR
  have HX := Lib.hid (And.intro x1 (And.intro x2 (And.intro x3 (And.intro x4 x5))))
  obtain ⟨k1, k2⟩ := hn.kind
  obtain ⟨v1, v2⟩ := hn.vol
  obtain ⟨a1, a2⟩ := hn.addr
  obtain ⟨e1, e2⟩ := hn.epoch
  obtain ⟨s1, s2⟩ := hn.seq
  have H1 := Lib.hid (LaySt.first (F' := f1 b) (Z := headZ b) (cs := #[.int .i64 81, .int .i64 77, .int .i64 b.kind, .int .i64 0]) (Ch.refl _ w1) (lit4 rfl rfl (by show b.kind = (b.kind.toNat : Int); omega) rfl))
  have F1 := Lib.hid (four_le (F := f1 b) (by decide : (81 : Nat) ≤ 4294967295) (by decide : (77 : Nat) ≤ 4294967295) (by show b.kind.toNat ≤ _; omega) (by decide : (0 : Nat) ≤ 4294967295))
  have F2 := Lib.hid (four_le (F := f2 b) (by show b.vol.toNat ≤ _; omega) (by show b.addr.toNat ≤ _; omega) (by show b.epoch.toNat ≤ _; omega) (by show b.seq.toNat ≤ _; omega))
  have C2 := Lib.hid (lit4 (F := f2 b) (x0 := b.vol) (x1 := b.addr) (x2 := b.epoch) (x3 := b.seq) (by show _ = (b.vol.toNat : Int); omega) (by show _ = (b.addr.toNat : Int); omega) (by show _ = (b.epoch.toNat : Int); omega) (by show _ = (b.seq.toNat : Int); omega))
  have C3 := Lib.hid (lit2 (F := f3 b) (x0 := (b.len : Int)) (x1 := 0) rfl rfl)
  have F3 := Lib.hid (show ∀ i, i < 2 → f3 b i ≤ 4294967295 from fun i hi => by
    match i, hi with
    | 0, _ => show b.len ≤ _; omega
    | 1, _ => show 0 ≤ _; omega)
  clear hR k1 k2 v1 v2 a1 a2 e1 e2 s1 s2 hn x1 x2 x3 x4 x5
  go_enter Tryz.func67, Tryz.ntmps67
  go_wp2_with ((with_reducible refine wpList_isOp (.box 71 (.tmp 0)) rfl ?_); refine wpList_boxing _ w1 rfl 71 (.tmp 0) rfl (bkC b) H rfl (by exact HR.out.sz) (by exact HR.out.al) ?_)
  refine (blay_any w1 w1.heap.size 4 0 1 (f1 b) (headZ b) (.slice none 0 0) _ H1.out F1.out (headZ_1 b) (by omega) (by omega) (by omega)).mono ?_
  rintro e w2 ⟨u2, rfl, h2⟩
  have y1 := h2.ch.cell HX.out.1 (fun f => f)
  have y2 := h2.ch.cell HX.out.2.1 (fun f => f)
  have y3 := h2.ch.cell HX.out.2.2.1 (fun f => f)
  have y4 := h2.ch.cell HX.out.2.2.2.1 (fun f => f)
  have H2 := Lib.hid (h2.next (m' := 4) (F' := f2 b) C2.out)
  clear h2 H1
  go_wp2_with fail
  refine (blay_any w1 w2.heap.size 4 4 4 (f2 b) (headZ b) u2 _ H2.out F2.out (headZ_2 b) (by omega) (by omega) (by omega)).mono ?_
  rintro e w3 ⟨u3, rfl, h3⟩
  have y5 := h3.ch.cell HX.out.2.2.2.2 (fun f => f)
  have H3 := Lib.hid (h3.next (m' := 2) (F' := f3 b) C3.out)
  have hl2 : b.len ≤ 140737488351232 := by omega
  clear h3 H2 y1 y2 y3 y4 HX
  go_wp2_with fail
  refine (blay_any w1 w3.heap.size 2 20 2 (f3 b) (headZ b) u3 _ H3.out F3.out (fun i j _ hj => headZ_3 b i j hj) (by omega) (by omega) (by omega)).mono ?_
  rintro e w4 ⟨u4, rfl, h4⟩
  obtain ⟨g4, C4, rfl, _⟩ := owns_some h4.own (by omega)
  have H4 := Lib.hid h4
  clear h4 H3 y5
  go_wp2
  go_ret
  exact ⟨_, _, rfl, ownsRow_low H4.out.own HR.out.ch.size, HR.out.ch.trans H4.out.ch⟩
/-! ### copy into a row of one's own, at a place -/
theorem cpy_at {w : World} {g o n l c C : Nat} {A : Option Addr} {y z : Nat → Nat} (hr : w.rowIs g /-t-/5 n (fun i => .int .u8 (y i : Int))) (h : RowV w (.slice A l C) l z) (hl : o + l ≤ n) :
    ∃ w', (∀ ty, (Builtin.copy_ #[ /-t-/24, /-t-/24] ty #[.slice (some ⟨g, o, none⟩) (n - o) c, .slice A l C]).run Tryz.prog w = .ok (goInt l) w') ∧ w'.rowIs g /-t-/5 n (fun i => .int .u8 ((if o ≤ i ∧ i < o + l then z (i - o) else y i : Nat) : Int)) ∧ w.grownBy w' (some g) := by
  by_cases h0 : l = 0
  · subst h0
    refine ⟨w, fun ty => run_copy_none w /-t-/24 /-t-/24 ty /-t-/5 _ _ _ c 0 C Tryz.underlying24 size_byte (by simp), hr.congr fun i _ => by rw [if_neg (by omega)], ⟨rfl, rfl, rfl, Nat.le_refl _, fun _ _ _ => rfl⟩⟩
  · obtain ⟨_, _, e, _, h3⟩ := h
    injection e with e _ _
    subst e
    obtain ⟨b, o2, rfl, h4⟩ := h3 (by omega)
    obtain ⟨cur, hg, hs, hc⟩ := hr
    have hrun := fun ty => run_copy_row (P := Tryz.prog) w /-t-/24 /-t-/24 ty /-t-/5 g o (n - o) c ⟨b, o2, none⟩ l C cur /-t-/5 (bytesL l z) Tryz.underlying24 size_byte hg (by rw [bytesL_len]; show l = min l (n - o); omega) (fun j v hv => by
      by_cases q : j < l
      · rw [bytesL_get q] at hv
        rw [add_pl, (h4 j q).1]
        exact hv
      · rw [bytesL_none q] at hv
        cases hv) (by rw [bytesL_len]; omega) bytesL_one
    rw [bytesL_len] at hrun
    have htk : (cur.toList.take o).length = o := by simp; omega
    refine ⟨_, hrun, ⟨_, setRow_heap w g cur _ /-t-/5 _ hg, ?_, fun i hi => ?_⟩, ⟨rfl, rfl, rfl, by simp, fun k _ hk => setRow_other w g k _ (fun e => hk (by simp [e]))⟩⟩
    · simp [bytesL_len]; omega
    · rw [List.getElem?_toArray]
      show _ = some (Value.int .u8 ((if o ≤ i ∧ i < o + l then z (i - o) else y i : Nat) : Int))
      by_cases q1 : i < o
      · rw [if_neg (by omega), List.append_assoc, List.getElem?_append_left (by omega), List.getElem?_take, if_pos q1, Array.getElem?_toList]
        exact hc i hi
      · by_cases q2 : i < o + l
        · rw [if_pos (by omega), List.append_assoc, List.getElem?_append_right (by omega), htk, List.getElem?_append_left (by rw [bytesL_len]; omega), bytesL_get (by omega)]
        · rw [if_neg (by omega), List.getElem?_append_right (by rw [List.length_append, htk, bytesL_len]; omega), List.length_append, htk, bytesL_len, List.getElem?_drop, Array.getElem?_toList, show o + l + (i - (o + l)) = i by omega]
          exact hc i hi
theorem rowIs_ch {w w' : World} {g : Nat} {t : TypeId} {n : Nat} {f : Nat → Value} (r : w.rowIs g t n f) (h : Ch (fun _ => False) w w') : w'.rowIs g t n f := h.rowIs r (fun f => f)
theorem rowIs_v {w : World} {g n C : Nat} {z : Nat → Nat} (h : w.rowIs g /-t-/5 n (fun i => .int .u8 (z i : Int))) (hn : n ≤ 1000000) (hC : n ≤ C) (hz : Bytes n z) : RowV w (.slice (some ⟨g, 0, none⟩) n C) n z :=
  ⟨_, _, rfl, by omega, fun _ => ⟨g, 0, rfl, fun c hc => ⟨by rw [Nat.zero_add]; exact h.cell hc, hz c hc⟩⟩⟩

/-! ### Seal -/
def SealPost (b : Bk) (w : World) (e : Ending) (w' : World) : Prop :=
  ∃ A C, e = .returned (.tuple #[.slice A (sealN b) C, .int .i64 (sealE b)]) ∧ w'.ownsRow w.heap.size /-t-/5 1 (.slice A (sealN b) C) (sealN b) (bytesL (sealN b) (sectZ b)) ∧ Ch (fun _ => False) w w'
theorem sealPost_no {b : Bk} {w w' : World} {x : Int} (hN : sealN b = 0) (hE : sealE b = x) (hc : Ch (fun _ => False) w w') : SealPost b w (.returned (.tuple #[.slice none 0 0, .int .i64 x])) w' :=
  ⟨none, 0, by rw [hN, hE], by rw [hN]; exact World.ownsRow_nil _ _ _ _, hc⟩
theorem sec_laid (b : Bk) (i : Nat) (hi : i < 252) : (if 24 ≤ i ∧ i < 24 + b.len then b.z (i - 24) else (if 0 ≤ i ∧ i < 0 + 24 then headZ b (i - 0) else 0)) = secZ b i := by
  unfold secZ
  by_cases q : i < 24
  · rw [if_neg (by omega), if_pos (by omega), if_pos q]; rfl
  · rw [if_neg q]
    by_cases q2 : i < 24 + b.len
    · rw [if_pos (by omega), if_pos q2]
    · rw [if_neg (by omega), if_neg q2, if_neg (by omega)]
set_option maxHeartbeats 1600000 in
set_option maxRecDepth 100000 in
theorem bseal_any (b : Bk) (A : Option Addr) (C : Nat) (w : World) (hV : b.V = .slice A b.len C) (hb : BkIs w b) : Calls Tryz.prog 37 #[.agg (bkC b)] w (SealPost b w) := by
  obtain ⟨w1, H, hR⟩ := bkR w b
  have hl : b.len ≤ 140737488351232 := by obtain ⟨_, _, _, h, _⟩ := hb.row; exact h.1
  have x5 : w1.cell? ⟨H, 5, none⟩ = some (.slice A b.len C) := by rw [← hV]; exact hR.at 5
  have HL := Lib.hid (load_bk hR.cx)
  have HB := Lib.hid (hb.gr hR.ch)
  have HR := Lib.hid hR
  have HV := Lib.hid hV
  clear hR hV hb
  by_cases hn : numB b = true
  case neg =>
    have hn : numB b = false := by simpa using hn
    have HN := Lib.hid (show sealN b = 0 by unfold sealN mayB; rw [hn]; rfl)
    have HE := Lib.hid (show sealE b = 1 by unfold sealE; rw [hn]; rfl)
    have HQ := Lib.hid hn
    clear hn
    go_enter Tryz.func37, Tryz.ntmps37
    go_wp2_with (first
      | ((with_reducible refine wpList_isOp (.box 71 (.tmp 0)) rfl ?_); refine wpList_boxing _ w1 rfl 71 (.tmp 0) rfl (bkC b) H rfl (by exact HR.out.sz) (by exact HR.out.al) ?_)
      | ((with_reducible refine wpList_isOp (.load 71 (.tmp 1)) rfl ?_); refine wpList_loading _ rfl 71 (.tmp 1) rfl (.agg (bkC b)) ⟨H, 0, none⟩ rfl (by exact HL.out) ?_))
    refine (numbersMay_any b _).mono ?_
    rintro e w2 ⟨rfl, hc2⟩
    rw [HQ.out]
    have HC := Lib.hid (HR.out.ch.trans hc2)
    clear hc2
    go_wp2
    go_ret2
    exact sealPost_no HN.out HE.out HC.out
  by_cases hs : b.len ≤ 228
  case neg =>
    have HN := Lib.hid (show sealN b = 0 by unfold sealN mayB; rw [hn, decide_eq_false hs]; rfl)
    have HE := Lib.hid (show sealE b = 2 by unfold sealE; rw [if_pos hn, if_neg hs])
    have HQ := Lib.hid hn
    have t1 : decide ((228 : Int) < (b.len : Int)) = true := by simp; omega
    clear hn hs
    go_enter Tryz.func37, Tryz.ntmps37
    go_wp2_with (first
      | ((with_reducible refine wpList_isOp (.box 71 (.tmp 0)) rfl ?_); refine wpList_boxing _ w1 rfl 71 (.tmp 0) rfl (bkC b) H rfl (by exact HR.out.sz) (by exact HR.out.al) ?_)
      | ((with_reducible refine wpList_isOp (.load 71 (.tmp 1)) rfl ?_); refine wpList_loading _ rfl 71 (.tmp 1) rfl (.agg (bkC b)) ⟨H, 0, none⟩ rfl (by exact HL.out) ?_))
    refine (numbersMay_any b _).mono ?_
    rintro e w2 ⟨rfl, hc2⟩
    rw [HQ.out]
    have y5 := hc2.cell x5 (fun f => f)
    have HC := Lib.hid (HR.out.ch.trans hc2)
    clear hc2 x5
    go_wp2
    go_ret2
    exact sealPost_no HN.out HE.out HC.out
  obtain ⟨i0, hi, hz0, hz1, hz2⟩ := info_parts Tryz.info5
  have hmk : ∀ w : World, (Instr.makeSlice /-t-/24 (.int .i64 252) (.int .i64 252)).run Tryz.prog w = .ok (.slice (some ⟨w.heap.size, 0, none⟩) 252 252) (w.alloc (.cells (madeCells #[.int .u8 0] 252) /-t-/5)) := fun w => by
    have := run_make (P := Tryz.prog) w /-t-/24 /-t-/5 i0 (.int .u8 0) Tryz.underlying24 hi hz0 .i64 .i64 252 252 (by omega) (by omega) (by rw [hz2]; omega) (by omega)
    rw [hz1] at this
    exact this
  have HM := Lib.hid (show mayB b = true by unfold mayB; rw [hn, decide_eq_true hs]; rfl)
  have HNum := Lib.hid (numB_iff.1 hn)
  have HQ := Lib.hid hn
  have t1 : decide ((228 : Int) < (b.len : Int)) = false := by simp; omega
  have HZB := Lib.hid (secZ_b HB.out.row.bytes 252)
  have HLN := Lib.hid hs
  clear hn hi hz0 hz1 hz2
  go_enter Tryz.func37, Tryz.ntmps37
  go_wp2_with (first
    | ((with_reducible refine wpList_isOp (.box 71 (.tmp 0)) rfl ?_); refine wpList_boxing _ w1 rfl 71 (.tmp 0) rfl (bkC b) H rfl (by exact HR.out.sz) (by exact HR.out.al) ?_)
    | ((with_reducible refine wpList_isOp (.load 71 (.tmp 1)) rfl ?_); refine wpList_loading _ rfl 71 (.tmp 1) rfl (.agg (bkC b)) ⟨H, 0, none⟩ rfl (by exact HL.out) ?_))
  refine (numbersMay_any b _).mono ?_
  rintro e w2 ⟨rfl, hc2⟩
  rw [HQ.out]
  have y5 := hc2.cell x5 (fun f => f)
  have hrow : (w2.alloc (.cells (madeCells #[.int .u8 0] 252) /-t-/5)).rowIs w2.heap.size /-t-/5 252 (fun i => .int .u8 (((fun _ => 0 : Nat → Nat) i : Nat) : Int)) := (World.rowIs_made w2 (.int .u8 0) 252 /-t-/5).congr fun _ _ => rfl
  have HC2 := Lib.hid hc2
  have hc3 := hc2.alloc (madeCells #[.int .u8 0] 252) /-t-/5
  have HL3 := Lib.hid (load_bk ((hc3.block H (blk_lt HR.out.cx) (fun f => f)).trans HR.out.cx))
  have HC3' := Lib.hid ((Ch.refl (fun _ => False) w2).alloc (madeCells #[.int .u8 0] 252) /-t-/5)
  have HROW := Lib.hid hrow
  clear hc2 hc3 hrow
  go_wp2_with ((with_reducible refine wpList_isOp (.load 71 (.tmp 1)) rfl ?_); refine wpList_loading _ rfl 71 (.tmp 1) rfl (.agg (bkC b)) ⟨H, 0, none⟩ rfl (by exact HL3.out) ?_)
  refine (head_any b A C _ HV.out HNum.out HLN.out).mono ?_
  rintro e w4 ⟨g4, C4, rfl, ho4, hc4⟩
  obtain ⟨w5, hr5, hrow5, hg5⟩ := cpy_at (o := 0) (c := 252) (rowIs_ch HROW.out hc4) (ownsRow_rowV ho4 (by omega) (headZ_b b 24)) (by omega)
  rw [show 252 - 0 = 252 from rfl] at hr5
  have hc5 : Ch (fun _ => False) w2 w5 := (HC3'.out.trans hc4).grown hg5 (fun i e => Or.inr (by injection e with e; omega))
  have HR5 := Lib.hid hr5
  have z5 : w5.drew.cell? ⟨H, 5, none⟩ = some (.slice A b.len C) := ((HC2.out.trans hc5).drew).cell x5 (fun f => f)
  have hb5 : RowV w5.drew (.slice A b.len C) b.len b.z := by
    have h := HB.out.row.gr (((HC2.out.trans hc5).drew))
    rw [HV.out] at h
    exact h
  obtain ⟨w6, hr6, hrow6, hg6⟩ := cpy_at (o := 24) (c := 228) (rowIs_ch hrow5 (Ch.refl _ w5).drew) hb5 (by have := HLN.out; omega)
  rw [show 252 - 24 = 228 from rfl] at hr6
  have hc6 : Ch (fun _ => False) w2 w6 := hc5.drew.grown hg6 (fun i e => Or.inr (by injection e with e; omega))
  have HR6 := Lib.hid hr6
  have HV6 := Lib.hid (rowIs_v (C := 252) (hrow6.congr (g := fun i => .int .u8 ((secZ b i : Nat) : Int)) fun i hi => by
    show Value.int .u8 _ = Value.int .u8 _
    rw [sec_laid b i hi]) (by omega) (by omega) HZB.out)
  have HC6 := Lib.hid ((HR.out.ch.trans HC2.out).trans hc6)
  clear hr5 ho4 hg5 y5 hr6 hg6 hrow6 hrow5 hc5 hc6 hb5 hc4 x5
  go_wp2_with ((with_reducible refine wpList_isOp (.call { callee := .builtin .copy, args := #[.tmp 13, .tmp 15], argTypes := #[ /-t-/24, /-t-/24] }) rfl ?_); refine wpList_cpy_of _ rfl (.tmp 13) (.tmp 15) rfl _ _ _ w5 rfl rfl HR5.out ?_)
  go_still_tail 4, (by kernel_rfl)
  change wpList _ _ _ _ _ w5.drew
  go_wp2_with ((with_reducible refine wpList_isOp (.call { callee := .builtin .copy, args := #[.tmp 18, .tmp 20], argTypes := #[ /-t-/24, /-t-/24] }) rfl ?_); refine wpList_cpy_of _ rfl (.tmp 18) (.tmp 20) rfl _ _ _ w6 rfl rfl HR6.out ?_)
  refine (seal_any _ 252 _ (secZ b) _ (by omega) HV6.out).mono ?_
  rintro e w7 ⟨g7, C7, rfl, ho7, hc7⟩
  have HPOST := Lib.hid (show SealPost b w (.returned (.tuple #[.slice (some ⟨g7, 0, none⟩) 256 C7, .int .i64 0])) w7 from by
    have e1 : sealN b = 256 := by unfold sealN; rw [HM.out]; rfl
    have e2 : sealE b = 0 := of_decide_eq_true (by rw [← sealE_may]; exact HM.out)
    exact ⟨_, _, by rw [e1, e2], by rw [e1]; exact ownsRow_low ho7 HC6.out.size, HC6.out.trans hc7⟩)
  clear ho7 hc7
  go_wp2
  go_ret2
  exact HPOST.out
end Go.Proofs.YtlbdopcchoklhaaGreat
