/-
  The sum of chapter 4 in plain numbers: its step is linear and loses nothing, so a run of up to four bytes that are changed is never lost. Bytes that are written out in the program (a row of consts in new memory), read. A block in plain words: its numbers, which it may have, its sector; what lies in memory of one. block.areWords and numbersMay, walked; a block in a variable. crc.step, eightSteps, More, Sum and lay, walked. bytes.Equal, walked.
-/
import Derived.Test.YteleknojohnlbaaGreatProg
import Derived.Test.YteleknojohnlbaaGreatMc1
import Derived.Test.YteleknojohnlbaaGreatMc2
import Derived.Deep.WholeRow
import Derived.Laws.BitsAllLaws
namespace Go.Proofs.YteleknojohnlbaaGreat.Crc
def st (r : Nat) : Nat := if r % 2 = 1 then r / 2 ^^^ 2197175160 else r / 2
def it : Nat → Nat → Nat
  | 0, r => r
  | k + 1, r => st (it k r)
def up (r b : Nat) : Nat := it 8 (r ^^^ b)
def reg (r : Nat) (z : Nat → Nat) : Nat → Nat
  | 0 => r
  | k + 1 => up (reg r z k) (z k)
def sumZ (n : Nat) (z : Nat → Nat) : Nat := reg 4294967295 z n ^^^ 4294967295
theorem xor_half (a b : Nat) : (a ^^^ b) / 2 = a / 2 ^^^ b / 2 := Nat.xor_div_two
theorem xor_odd (a b : Nat) : (a ^^^ b) % 2 = (a % 2) ^^^ (b % 2) := Nat.xor_mod_two_pow (n := 1)
theorem xor_swap (a b c d : Nat) : (a ^^^ b) ^^^ (c ^^^ d) = (a ^^^ c) ^^^ (b ^^^ d) := by
  rw [Nat.xor_assoc, Nat.xor_assoc, ← Nat.xor_assoc b c d, Nat.xor_comm b c, Nat.xor_assoc c b d]
theorem xor_lt {a b : Nat} (ha : a < 4294967296) (hb : b < 4294967296) : a ^^^ b < 4294967296 := Nat.xor_lt_two_pow (n := 32) ha hb
theorem xor_lt8 {a b : Nat} (ha : a < 256) (hb : b < 256) : a ^^^ b < 256 := Nat.xor_lt_two_pow (n := 8) ha hb
theorem st_xor (a b : Nat) : st (a ^^^ b) = st a ^^^ st b := by
  unfold st
  rw [xor_half, xor_odd]
  rcases Nat.mod_two_eq_zero_or_one a with ha | ha <;> rcases Nat.mod_two_eq_zero_or_one b with hb | hb <;> rw [ha, hb]
  · simp
  · simp [Nat.xor_assoc]
  · simp only [Nat.xor_zero, if_true]
    rw [if_neg (by decide), Nat.xor_assoc, Nat.xor_assoc, Nat.xor_comm 2197175160]
  · simp only [Nat.xor_self, if_true]
    rw [if_neg (by decide), xor_swap, Nat.xor_self, Nat.xor_zero]
theorem st_lt {r : Nat} (h : r < 4294967296) : st r < 4294967296 := by
  unfold st; split
  · exact xor_lt (by omega) (by omega)
  · omega
theorem it_xor (k a b : Nat) : it k (a ^^^ b) = it k a ^^^ it k b := by
  induction k with
  | zero => rfl
  | succ k ih => show st _ = st _ ^^^ st _; rw [ih, st_xor]
theorem it_lt {r : Nat} (h : r < 4294967296) : ∀ k, it k r < 4294967296
  | 0 => h
  | k + 1 => st_lt (it_lt h k)
theorem it_high (h : Nat) : ∀ k, it k (2 ^ k * h) = h := by
  intro k
  induction k generalizing h with
  | zero => show 2 ^ 0 * h = h; simp
  | succ k ih =>
    show st (it k (2 ^ (k + 1) * h)) = h
    rw [Nat.pow_succ, Nat.mul_assoc, ih]
    unfold st; rw [if_neg (by omega)]; omega
theorem it_high8 (h : Nat) : it 8 (256 * h) = h := it_high h 8
theorem xor_low {b : Nat} (h : b < 256) (x : Nat) : b ^^^ 256 * x = b + 256 * x := by
  have e1 : (b ^^^ 256 * x) / 256 = x := by
    have := Nat.xor_div_two_pow (a := b) (b := 256 * x) (n := 8)
    rw [show (2 : Nat) ^ 8 = 256 from rfl] at this
    rw [this, Nat.div_eq_of_lt h, Nat.mul_div_cancel_left x (by omega), Nat.zero_xor]
  have e2 : (b ^^^ 256 * x) % 256 = b := by
    have := Nat.xor_mod_two_pow (a := b) (b := 256 * x) (n := 8)
    rw [show (2 : Nat) ^ 8 = 256 from rfl] at this
    rw [this, Nat.mod_eq_of_lt h, Nat.mul_mod_right, Nat.xor_zero]
  omega
theorem up_look (r b : Nat) : up r b = it 8 ((r % 256) ^^^ b) ^^^ (r / 256) := by
  have e : r = (r % 256) ^^^ 256 * (r / 256) := by rw [xor_low (Nat.mod_lt _ (by omega))]; omega
  have e2 : r ^^^ b = ((r % 256) ^^^ b) ^^^ 256 * (r / 256) := by
    have h : r ^^^ b = (r % 256 ^^^ 256 * (r / 256)) ^^^ b := congrArg (· ^^^ b) e
    rw [h, Nat.xor_assoc, Nat.xor_comm (256 * (r / 256)), ← Nat.xor_assoc]
  unfold up
  rw [e2, it_xor, it_high8]
theorem up_lt {r b : Nat} (hr : r < 4294967296) (hb : b < 256) : up r b < 4294967296 := it_lt (xor_lt hr (by omega)) 8
theorem reg_lt {r : Nat} {z : Nat → Nat} (hr : r < 4294967296) : ∀ n, (∀ i, i < n → z i < 256) → reg r z n < 4294967296
  | 0, _ => hr
  | n + 1, h => up_lt (reg_lt hr n fun i hi => h i (by omega)) (h n (by omega))
theorem reg_congr {r : Nat} {z y : Nat → Nat} : ∀ n, (∀ i, i < n → z i = y i) → reg r z n = reg r y n
  | 0, _ => rfl
  | n + 1, h => by show up _ _ = up _ _; rw [reg_congr n fun i hi => h i (by omega), h n (by omega)]
def le4 (a b c d : Nat) : Nat := a + 256 * (b + 256 * (c + 256 * d))
theorem le4_lt {a b c d : Nat} (ha : a < 256) (hb : b < 256) (hc : c < 256) (hd : d < 256) : le4 a b c d < 4294967296 := by unfold le4; omega
theorem sumZ_lt {n : Nat} {z : Nat → Nat} (h : ∀ i, i < n → z i < 256) : sumZ n z < 4294967296 := xor_lt (reg_lt (by omega) n h) (by omega)
theorem sumZ_congr {n : Nat} {z y : Nat → Nat} (h : ∀ i, i < n → z i = y i) : sumZ n z = sumZ n y := by unfold sumZ; rw [reg_congr n h]
theorem not_xor {r : Nat} (h : r < 4294967296) : r ^^^ 4294967295 = 4294967295 - r := by
  have : r ^^^ 4294967295 = 2 ^ 32 - 1 - r := by
    apply Nat.eq_of_testBit_eq
    intro i
    rw [Nat.testBit_xor, Nat.sub_sub, Nat.add_comm 1 r, Nat.testBit_two_pow_sub_succ (show r < 2 ^ 32 from h), show (4294967295 : Nat) = 2 ^ 32 - 1 from rfl, Nat.testBit_two_pow_sub_one]
    by_cases hi : i < 32
    · simp [hi]
    · simp [hi]; exact Nat.testBit_lt_two_pow (Nat.lt_of_lt_of_le (show r < 2 ^ 32 from h) (Nat.pow_le_pow_right (by omega) (by omega)))
  rw [this]
def byteOf (s j : Nat) : Nat := s / 256 ^ j % 256
theorem byteOf_lt (s j : Nat) : byteOf s j < 256 := Nat.mod_lt _ (by omega)
theorem byteOf_le4 {s : Nat} (h : s < 4294967296) : le4 (byteOf s 0) (byteOf s 1) (byteOf s 2) (byteOf s 3) = s := by
  unfold le4 byteOf; simp only [Nat.reducePow]; omega
def sealZ (n : Nat) (z : Nat → Nat) (i : Nat) : Nat := if i < n then z i else byteOf (sumZ n z) (i - n)
theorem sealZ_lt {n : Nat} {z : Nat → Nat} (h : ∀ i, i < n → z i < 256) (i : Nat) : sealZ n z i < 256 := by
  unfold sealZ; split
  · exact h i (by assumption)
  · exact byteOf_lt _ _
def Whole (n : Nat) (z : Nat → Nat) : Prop := 4 ≤ n ∧ ∀ j, j < 4 → z (n - 4 + j) = byteOf (sumZ (n - 4) z) j
instance (n : Nat) (z : Nat → Nat) : Decidable (Whole n z) := inferInstanceAs (Decidable (_ ∧ _))
end Go.Proofs.YteleknojohnlbaaGreat.Crc
namespace Go.Proofs.YteleknojohnlbaaGreat
open Go.RowKit
set_option linter.unusedVariables false
set_option maxRecDepth 100000
def litZ (l : List Nat) (i : Nat) : Nat := l.getD i 0
def litV (l : List Nat) : Array Value := (l.map fun (x : Nat) => Value.int .u8 (x : Int)).toArray
theorem lit_row (w : World) (l : List Nat) (n : Nat) (fr : Nat × Nat) (hn : l.length = n) (h : ∀ x ∈ l, x < 256) (h2 : n ≤ 65536) : RowV (w.alloc (.cells (litV l) /-t-/5 fr)) (.slice (some ⟨w.heap.size, 0, none⟩) n n) n (litZ l) := by
  refine ⟨_, _, rfl, by omega, fun _ => ⟨_, _, rfl, fun c hc => ⟨?_, ?_⟩⟩⟩
  · rw [cell_of_row _ _ _ _ _ fr (heap_alloc_new w _), Nat.zero_add]
    unfold litV litZ
    have hc' : c < l.length := by omega
    simp [List.getD, hc']
  · unfold litZ
    rw [List.getD, List.getElem?_eq_getElem (by omega)]
    exact h _ (List.getElem_mem _)
end Go.Proofs.YteleknojohnlbaaGreat
namespace Go.Proofs.YteleknojohnlbaaGreat
open Go.RowKit
set_option linter.unusedVariables false
set_option maxRecDepth 100000
structure Bk where
  kind : Int
  vol : Int
  addr : Int
  epoch : Int
  seq : Int
  V : Value
  len : Nat
  z : Nat → Nat
def bkC (b : Bk) : Array Value := #[.int .i64 b.kind, .int .i64 b.vol, .int .i64 b.addr, .int .i64 b.epoch, .int .i64 b.seq, b.V]
def N64 (x : Int) : Prop := -9223372036854775808 ≤ x ∧ x ≤ 9223372036854775807
structure BkIs (w : World) (b : Bk) : Prop where
  kind : N64 b.kind
  vol : N64 b.vol
  addr : N64 b.addr
  epoch : N64 b.epoch
  seq : N64 b.seq
  row : RowV w b.V b.len b.z
theorem BkIs.gr {w w' : World} {b : Bk} (h : BkIs w b) (k : Ch (fun _ => False) w w') : BkIs w' b := ⟨h.kind, h.vol, h.addr, h.epoch, h.seq, h.row.gr k⟩
def wordB (x : Int) : Bool := decide (0 ≤ x ∧ x ≤ 4294967295)
def wordsB (b : Bk) : Bool := wordB b.vol && (wordB b.addr && (wordB b.epoch && wordB b.seq))
def kindB (b : Bk) : Bool := decide (1 ≤ b.kind ∧ b.kind ≤ 4)
def numB (b : Bk) : Bool := kindB b && wordsB b
def mayB (b : Bk) : Bool := numB b && decide (b.len ≤ 228)
structure Num (b : Bk) : Prop where
  kind : 1 ≤ b.kind ∧ b.kind ≤ 4
  vol : 0 ≤ b.vol ∧ b.vol ≤ 4294967295
  addr : 0 ≤ b.addr ∧ b.addr ≤ 4294967295
  epoch : 0 ≤ b.epoch ∧ b.epoch ≤ 4294967295
  seq : 0 ≤ b.seq ∧ b.seq ≤ 4294967295
theorem wordB_iff {x : Int} : wordB x = true ↔ 0 ≤ x ∧ x ≤ 4294967295 := decide_eq_true_iff
theorem numB_iff {b : Bk} : numB b = true ↔ Num b := by
  unfold numB wordsB kindB
  simp only [Bool.and_eq_true, wordB_iff, decide_eq_true_iff]
  exact ⟨fun ⟨a, c, d, e, f⟩ => ⟨a, c, d, e, f⟩, fun h => ⟨h.kind, h.vol, h.addr, h.epoch, h.seq⟩⟩
theorem mayB_iff {b : Bk} : mayB b = true ↔ Num b ∧ b.len ≤ 228 := by
  unfold mayB
  rw [Bool.and_eq_true, numB_iff, decide_eq_true_iff]
def layZ (k : Nat) (z : Nat → Nat) (wide : Nat) (F : Nat → Nat) (c : Nat) : Nat := if c < k then z c else Crc.byteOf (F ((c - k) / wide)) ((c - k) % wide)
theorem layZ_b {k m : Nat} {z : Nat → Nat} (wide : Nat) (F : Nat → Nat) (hz : Bytes k z) : Bytes m (layZ k z wide F) := fun c _ => by
  unfold layZ; split
  · exact hz c (by assumption)
  · exact Crc.byteOf_lt _ _
def f1 (b : Bk) : Nat → Nat := litZ [81, 77, b.kind.toNat, 0]
def f2 (b : Bk) : Nat → Nat := litZ [b.vol.toNat, b.addr.toNat, b.epoch.toNat, b.seq.toNat]
def f3 (b : Bk) : Nat → Nat := litZ [b.len, 0]
def headZ (b : Bk) : Nat → Nat := layZ 20 (layZ 4 (layZ 0 (fun _ => 0) 1 (f1 b)) 4 (f2 b)) 2 (f3 b)
theorem none_b {z : Nat → Nat} : Bytes 0 z := fun c hc => absurd hc (Nat.not_lt_zero c)
theorem headZ_b (b : Bk) (m : Nat) : Bytes m (headZ b) := layZ_b _ _ (layZ_b _ _ (layZ_b _ _ none_b))
def secZ (b : Bk) (c : Nat) : Nat := if c < 24 then headZ b c else if c < 24 + b.len then b.z (c - 24) else 0
theorem secZ_b {b : Bk} (h : Bytes b.len b.z) (m : Nat) : Bytes m (secZ b) := fun c _ => by
  unfold secZ
  split
  · exact headZ_b b 24 c (by assumption)
  · split
    · exact h _ (by omega)
    · omega
def sectZ (b : Bk) : Nat → Nat := Crc.sealZ 252 (secZ b)
theorem sectZ_b {b : Bk} (h : Bytes b.len b.z) (m : Nat) : Bytes m (sectZ b) := fun c _ => Crc.sealZ_lt (secZ_b h 252) c
theorem sectZ_front {b : Bk} {c : Nat} (h : c < 252) : sectZ b c = secZ b c := by unfold sectZ Crc.sealZ; rw [if_pos h]
def sealE (b : Bk) : Int := if numB b then (if b.len ≤ 228 then 0 else 2) else 1
def sealN (b : Bk) : Nat := if mayB b then 256 else 0
theorem sealE_may {b : Bk} : mayB b = decide (sealE b = 0) := by
  unfold mayB sealE
  by_cases h : numB b
  · rw [if_pos h, h, Bool.true_and]
    by_cases h2 : b.len ≤ 228
    · rw [if_pos h2, decide_eq_true h2]; rfl
    · rw [if_neg h2, decide_eq_false h2]; rfl
  · rw [if_neg h]
    have : numB b = false := by simpa using h
    rw [this]; rfl
def numZ (z : Nat → Nat) (a : Nat) : Nat := Crc.le4 (z a) (z (a + 1)) (z (a + 2)) (z (a + 3))
def blkLong (z : Nat → Nat) : Nat := z 20 + 256 * z 21
def readB (V : Value) (z : Nat → Nat) : Bk := ⟨z 2, numZ z 4, numZ z 8, numZ z 12, numZ z 16, V, if blkLong z ≤ 228 then blkLong z else 228, fun c => z (24 + c)⟩
def opensB (n : Nat) (z : Nat → Nat) : Bool := decide (n = 256) && (mayB (readB undef z) && eqB 256 256 (sectZ (readB undef z)) z)
def openQ (n : Nat) (z : Nat → Nat) : Int := if n = 256 then (if opensB n z then 0 else 7) else 1
def bk0 : Bk := ⟨0, 0, 0, 0, 0, .slice none 0 0, 0, fun _ => 0⟩
end Go.Proofs.YteleknojohnlbaaGreat
namespace Go.Proofs.YteleknojohnlbaaGreat
open Go.RowKit
set_option linter.unusedVariables false
set_option maxRecDepth 100000
def fourV (a b c d : Int) : Array Value := #[.int .i64 a, .int .i64 b, .int .i64 c, .int .i64 d]
def fourI (a b c d : Int) (i : Nat) : Int := [a, b, c, d].getD i 0
def wordsTo (f : Nat → Int) : Nat → Bool
  | 0 => true
  | k + 1 => wordsTo f k && wordB (f k)
theorem wordsTo_false {f : Nat → Int} {k m : Nat} (hk : k < m) (h : wordB (f k) = false) : wordsTo f m = false := by
  induction m with
  | zero => omega
  | succ m ih =>
    show (wordsTo f m && wordB (f m)) = false
    by_cases e : k = m
    · rw [← e, h, Bool.and_false]
    · rw [ih (by omega), Bool.false_and]
theorem four_cell {w : World} {g i : Nat} {a b c d : Int} {t : TypeId} (h : w.heap[g]? = some (.cells (fourV a b c d) t (0, 0))) (hi : i < 4) : w.cell? ⟨g, i, none⟩ = some (.int .i64 (fourI a b c d i)) := by
  rw [blk_cell h]
  match i, hi with
  | 0, _ => rfl
  | 1, _ => rfl
  | 2, _ => rfl
  | 3, _ => rfl
theorem words_four (b : Bk) : wordsTo (fourI b.vol b.addr b.epoch b.seq) 4 = wordsB b := by
  show ((((true && wordB b.vol) && wordB b.addr) && wordB b.epoch) && wordB b.seq) = _
  unfold wordsB
  rw [Bool.true_and, Bool.and_assoc, Bool.and_assoc]
set_option maxHeartbeats 800000 in
theorem areWords_any (g : Nat) (a b c d : Int) (w : World) (h : w.heap[g]? = some (.cells (fourV a b c d) 3 (0, 0))) : Calls Tryz.prog 113 #[.slice (some ⟨g, 0, none⟩) 4 4] w fun e w' => e = .returned (.bool (wordsTo (fourI a b c d) 4)) ∧ w = w' := by
  have HF := Lib.hid (fun i (hi : i < 4) => four_cell h hi)
  clear h
  obtain ⟨f, hf⟩ : ∃ f, f = fourI a b c d := ⟨_, rfl⟩
  rw [← hf] at HF ⊢
  clear hf
  go_enter Tryz.func113, Tryz.ntmps113
  go_wp2
  go_loop [4, 7] (fun _ i => ∃ k : Nat, k ≤ 4 ∧ i = .int .i64 k ∧ Hid (wordsTo f k = true)) (fun _ i => 4 - (intOf i).toNat)
  case atStart => exact ⟨0, Nat.zero_le _, rfl, Lib.hid rfl⟩
  case round =>
    obtain ⟨k, hk, rfl, HK⟩ := hrel
    by_cases hlt : k < 4
    · have c1 := HF.out k hlt
      obtain ⟨x, hx⟩ : ∃ x, x = f k := ⟨_, rfl⟩
      rw [← hx] at c1
      have tk : decide ((k : Int) < 4) = true := by simp; omega
      by_cases q1 : x < 0
      · have HN := Lib.hid (wordsTo_false (f := f) hlt (by rw [← hx]; exact decide_eq_false (by omega)))
        clear hx
        go_wp2
        go_ret
        exact ⟨ret_bool HN.out.symm, rfl⟩
      · by_cases q2 : 4294967295 < x
        · have HN := Lib.hid (wordsTo_false (f := f) hlt (by rw [← hx]; exact decide_eq_false (by omega)))
          clear hx
          go_wp2
          go_ret
          exact ⟨ret_bool HN.out.symm, rfl⟩
        · have HN := Lib.hid (show wordsTo f (k + 1) = true by
            show (wordsTo f k && wordB (f k)) = true
            rw [HK.out, Bool.true_and, ← hx]
            exact decide_eq_true (by omega))
          clear hx
          go_wp2
          go_round
          case rel => exact ⟨k + 1, by omega, by go_num, HN⟩
          case measure => simp [intOf]; omega
    · obtain rfl : k = 4 := by omega
      go_wp2
      go_ret
      exact ⟨ret_bool HK.out.symm, rfl⟩
structure BkR (w w1 : World) (H : Nat) (b : Bk) : Prop where
  al : w.alloc (.cells (bkC b) 80) = w1
  sz : w.heap.size = H
  cx : w1.heap[H]? = some (.cells (bkC b) 80 (0, 0))
  ch : Ch (fun _ => False) w w1
theorem bkR (w : World) (b : Bk) : ∃ w1 H, BkR w w1 H b := ⟨_, _, rfl, rfl, heap_alloc_new w _, (Ch.refl _ w).alloc _ _⟩
theorem BkR.at {w w1 : World} {H : Nat} {b : Bk} (h : BkR w w1 H b) (i : Nat) : w1.cell? ⟨H, i, none⟩ = (bkC b)[i]? := blk_cell h.cx
theorem load_bk {w : World} {H : Nat} {b : Bk} (h : w.heap[H]? = some (.cells (bkC b) 80 (0, 0))) : (loadVar 80 ⟨H, 0, none⟩).run Tryz.prog w = .ok (.agg (bkC b)) w :=
  run_loadVar_row w H _ _ (bkC b) (0, 0) _ h Tryz.underlying80 rfl (show _ = some 6 by kernel_rfl)
set_option maxHeartbeats 800000 in
theorem numbersMay_any (b : Bk) (w : World) : Calls Tryz.prog 71 #[.agg (bkC b)] w (Ans (.bool (numB b)) w) := by
  obtain ⟨w1, H, hR⟩ := bkR w b
  have x0 : w1.cell? ⟨H, 0, none⟩ = some (.int .i64 b.kind) := hR.at 0
  have HR := Lib.hid hR
  by_cases q1 : b.kind < 1
  · have HN := Lib.hid (show numB b = false by
      unfold numB kindB
      rw [decide_eq_false (by omega : ¬ (1 ≤ b.kind ∧ b.kind ≤ 4)), Bool.false_and])
    have t1 : decide (1 ≤ b.kind) = false := by simp; omega
    clear hR q1
    go_enter Tryz.func71, Tryz.ntmps71
    go_wp2_with ((with_reducible refine wpList_isOp (.box 80 (.tmp 0)) rfl ?_); refine wpList_boxing _ w1 rfl 80 (.tmp 0) rfl (bkC b) H rfl (by exact HR.out.sz) (by exact HR.out.al) ?_)
    go_ret
    exact ⟨ret_bool HN.out.symm, HR.out.ch⟩
  · by_cases q2 : 4 < b.kind
    · have HN := Lib.hid (show numB b = false by
        unfold numB kindB
        rw [decide_eq_false (by omega : ¬ (1 ≤ b.kind ∧ b.kind ≤ 4)), Bool.false_and])
      have t1 : decide (1 ≤ b.kind) = true := by simp; omega
      have t2 : decide (b.kind ≤ 4) = false := by simp; omega
      clear hR q1 q2
      go_enter Tryz.func71, Tryz.ntmps71
      go_wp2_with ((with_reducible refine wpList_isOp (.box 80 (.tmp 0)) rfl ?_); refine wpList_boxing _ w1 rfl 80 (.tmp 0) rfl (bkC b) H rfl (by exact HR.out.sz) (by exact HR.out.al) ?_)
      go_ret
      exact ⟨ret_bool HN.out.symm, HR.out.ch⟩
    · have HN := Lib.hid (show numB b = wordsTo (fourI b.vol b.addr b.epoch b.seq) 4 by
        unfold numB kindB
        rw [decide_eq_true (by omega : 1 ≤ b.kind ∧ b.kind ≤ 4), Bool.true_and, words_four])
      have t1 : decide (1 ≤ b.kind) = true := by simp; omega
      have t2 : decide (b.kind ≤ 4) = true := by simp; omega
      have x1 : w1.cell? ⟨H, 1, none⟩ = some (.int .i64 b.vol) := hR.at 1
      have x2 : w1.cell? ⟨H, 2, none⟩ = some (.int .i64 b.addr) := hR.at 2
      have x3 : w1.cell? ⟨H, 3, none⟩ = some (.int .i64 b.epoch) := hR.at 3
      have x4 : w1.cell? ⟨H, 4, none⟩ = some (.int .i64 b.seq) := hR.at 4
      clear hR q1 q2
      go_enter Tryz.func71, Tryz.ntmps71
      go_wp2_with (first
        | ((with_reducible refine wpList_isOp (.box 80 (.tmp 0)) rfl ?_); refine wpList_boxing _ w1 rfl 80 (.tmp 0) rfl (bkC b) H rfl (by exact HR.out.sz) (by exact HR.out.al) ?_)
        | (go_at_call 113; refine (areWords_any _ b.vol b.addr b.epoch b.seq _ (heap_alloc_new w1 _)).mono ?_; rintro e w2 ⟨rfl, rfl⟩))
      go_ret
      exact ⟨ret_bool HN.out.symm, HR.out.ch.alloc _ _⟩
end Go.Proofs.YteleknojohnlbaaGreat
namespace Go.Proofs.YteleknojohnlbaaGreat
open Go.RowKit
set_option linter.unusedVariables false
set_option maxRecDepth 100000
theorem st_odd {r : Nat} (h : r < 4294967296) (o : r % 2 = 1) : bits .xor .u32 ((r : Int) / 2) 2197175160 = (Crc.st r : Int) := by
  have e := u32_xor_nat (r / 2) 2197175160 (by omega) (by omega)
  unfold Crc.st
  rw [if_pos o, ← e]
  rfl
theorem st_even {r : Nat} (o : ¬ r % 2 = 1) : (r : Int) / 2 = (Crc.st r : Int) := by
  unfold Crc.st; rw [if_neg o]; omega
theorem st_test {r : Nat} (h : r < 4294967296) : bits .and .u32 (r : Int) 1 = ((r % 2 : Nat) : Int) := by
  have e := u32_and_nat r 1 h (by omega)
  rw [nat_mask1] at e
  exact e
set_option maxHeartbeats 400000 in
theorem step_any (r : Nat) (h : r < 4294967296) (w : World) : Calls Tryz.prog 142 #[.int .u32 (r : Int)] w fun e w' => e = .returned (.int .u32 (Crc.st r : Int)) ∧ w = w' := by
  by_cases o : r % 2 = 1
  · have HE := Lib.hid (st_odd h o)
    have t1 : (bits .and .u32 (r : Int) 1 == 1) = true := by rw [st_test h, o]; rfl
    clear o h
    go_enter Tryz.func142, Tryz.ntmps142
    go_wp2
    go_ret
    exact ⟨ret_int HE.out, rfl⟩
  · have HE := Lib.hid (st_even o)
    have t1 : (bits .and .u32 (r : Int) 1 == 1) = false := by
      rw [st_test h, show r % 2 = 0 by omega]; rfl
    clear o h
    go_enter Tryz.func142, Tryz.ntmps142
    go_wp2
    go_ret
    exact ⟨ret_int HE.out, rfl⟩
def zt : Array Value := Array.replicate 256 (.int .u32 0)
theorem zt_size : zt.size = 256 := by simp [zt]
theorem zt_run (w : World) : (zeroValue 194).run Tryz.prog w = .ok (.agg zt) w := by kernel_rfl
theorem zt_info : (Tryz.prog.info? 194).map (·.size) = some 256 := by kernel_rfl
def tn (k j : Nat) : Nat := if j < k then Crc.it 8 j else 0
def tv (k j : Nat) : Value := .int .u32 (tn k j : Int)
def tab : Array Value := (Array.range 256).map (tv 256)
theorem tab_size : tab.size = 256 := by simp [tab]
theorem tab_one : tab.all (·.oneCell') = true := by
  rw [Array.all_eq_true_iff_forall_mem]
  intro v hv
  unfold tab at hv
  obtain ⟨j, _, rfl⟩ := Array.mem_map.1 hv
  rfl
theorem tab_at {j : Nat} (h : j < 256) : tab[j]? = some (.int .u32 (Crc.it 8 j : Int)) := by
  unfold tab; simp [h, tv, tn]
theorem tn_step (k j : Nat) : tn (k + 1) j = if j = k then Crc.it 8 k else tn k j := by
  unfold tn
  by_cases e : j = k
  · subst e; rw [if_pos (by omega), if_pos rfl]
  · rw [if_neg e]
    by_cases q : j < k
    · rw [if_pos (by omega), if_pos q]
    · rw [if_neg (by omega), if_neg q]
theorem tv_step (k j : Nat) : tv (k + 1) j = if j = k then .int .u32 (Crc.it 8 k : Int) else tv k j := by
  unfold tv; rw [tn_step]; split <;> rfl
theorem rowIs_arr {w : World} {g t n : Nat} {f : Nat → Value} (h : w.rowIs g t n f) : w.heap[g]? = some (.cells ((Array.range n).map f) t (0, 0)) := by
  obtain ⟨c, hc, hs, hf⟩ := h
  have e : c = (Array.range n).map f := by
    refine Array.ext_getElem? fun i => ?_
    by_cases hi : i < n
    · rw [hf i hi]; simp [hi]
    · rw [Array.getElem?_eq_none (by omega), Array.getElem?_eq_none (by simp; omega)]
  rw [← e]; exact hc
structure EightRel (w : World) (k : Nat) (wr : World) : Prop where
  row : wr.rowIs (w.heap.size + 1) 194 256 (tv k)
  old : wr.heap[w.heap.size]? = some (.cells zt 194 (0, 0))
  ch : Ch (fun _ => False) w wr
theorem zt_get (i : Nat) (h : i < zt.size) : zt[i]? = some (tv 0 i) := by
  rw [zt_size] at h
  simp [zt, h, tv, tn]
theorem EightRel.start (w : World) : EightRel w 0 ((w.alloc (.cells zt 194)).alloc (.cells zt 194)) := by
  have h1 := World.rowIs_alloc (w.alloc (.cells zt 194)) zt 194 (tv 0) zt_get
  rw [zt_size, show (w.alloc (.cells zt 194)).heap.size = w.heap.size + 1 by simp] at h1
  exact ⟨h1, heap_alloc2_old _ _ _, ((Ch.refl _ w).alloc _ _).alloc _ _⟩
theorem EightRel.step {w wr : World} {k : Nat} (h : EightRel w k wr) (hk : k < 256) : EightRel w (k + 1) (wr.setCell ⟨w.heap.size + 1, k, none⟩ (.int .u32 (Crc.it 8 k : Int))) :=
  ⟨(h.row.set k _).congr fun j _ => (tv_step k j).symm, (heap_setCell_other wr ⟨w.heap.size + 1, k, none⟩ w.heap.size _ (by show w.heap.size ≠ w.heap.size + 1; omega)).trans h.old, h.ch.setCell (Or.inr (Nat.le_succ _)) _⟩
set_option maxHeartbeats 800000 in
set_option maxRecDepth 100000 in
theorem eight_any (w : World) : Calls Tryz.prog 136 #[] w (Ans (.agg tab) w) := by
  have hz := zt_run
  have H0 := Lib.hid (EightRel.start w)
  go_enter Tryz.func136, Tryz.ntmps136
  go_wp2
  go_loopw [2, 3, 4, 9] (fun _ _ i _ wr => ∃ k : Nat, k ≤ 256 ∧ i = .int .i64 k ∧ Hid (EightRel w k wr)) (fun _ _ i _ _ => 256 - (intOf i).toNat)
  case atStart => exact ⟨0, Nat.zero_le _, rfl, H0⟩
  case round =>
    obtain ⟨k, hk, rfl, HR⟩ := hrel
    by_cases hlt : k < 256
    · have tk : decide ((k : Int) < 256) = true := by simp; omega
      have c1 := HR.out.row.cell (i := k) hlt
      have z1 := HR.out.row.frozen k
      have HN := Lib.hid (HR.out.step hlt)
      have HL := Lib.hid (Crc.it_lt (show k < 4294967296 by omega))
      clear HR
      go_wp2
      go_loop [3, 9] (fun r j => ∃ i : Nat, i ≤ 8 ∧ j = .int .i64 i ∧ r = .int .u32 (Crc.it i k : Int)) (fun _ j => 8 - (intOf j).toNat)
      case atStart => exact ⟨0, Nat.zero_le _, rfl, rfl⟩
      case round =>
        obtain ⟨i, hi, rfl, rfl⟩ := hrel
        by_cases hlt2 : i < 8
        · go_wp2_with (go_at_call 142; refine (step_any _ (HL.out i) _).mono ?_; rintro e w' ⟨rfl, rfl⟩)
          go_round
          case rel => exact ⟨i + 1, by omega, by go_num, rfl⟩
          case measure => simp [intOf]; omega
        · obtain rfl : i = 8 := by omega
          go_wp2
          go_roundw
          case rel => exact ⟨k + 1, by omega, by go_num, HN⟩
          case measure => simp [intOf]; omega
    · obtain rfl : k = 256 := by omega
      have HR1 := Lib.hid (show wr.heap[w.heap.size + 1]? = some (.cells tab 194 (0, 0)) from rowIs_arr HR.out.row)
      have HR2 := Lib.hid HR.out.old
      have HC := Lib.hid HR.out.ch
      clear HR
      have HI1 := Lib.hid (show (Tryz.prog.info? 194).map (·.size) = some tab.size by rw [zt_info, tab_size])
      have HI2 := Lib.hid (show zt.size = tab.size by rw [zt_size, tab_size])
      clear hz
      go_wp2_with (first | (refine wpList_load_row (P := Tryz.prog) rfl 194 (.tmp 1) rfl (w.heap.size + 1) rfl 194 tab (0, 0) _ HR1.out Tryz.underlying194 rfl HI1.out ?_) | (refine wpList_store_row (P := Tryz.prog) rfl 194 (.tmp 0) (.tmp 18) rfl w.heap.size tab rfl rfl 194 zt HR2.out HI1.out HI2.out tab_one ?_))
      exact bodyPost_ret (v := .agg tab) (results_cell_row Tryz.results136 _ _ w.heap.size 194 tab (0, 0) _ rfl (setRow_heap _ _ _ _ _ _ HR2.out) Tryz.underlying194 rfl HI1.out) rfl ⟨rfl, HC.out.setRow (Or.inr (Nat.le_refl _)) _⟩
theorem up_at {R x : Nat} (hR : R < 4294967296) (hx : x < 256) : bits .xor .u32 (Crc.it 8 ((R % 256) ^^^ x) : Int) ((R : Int) / 256) = (Crc.up R x : Int) := by
  have e := u32_xor_nat (Crc.it 8 ((R % 256) ^^^ x)) (R / 256) (Crc.it_lt (show (R % 256) ^^^ x < 4294967296 from Nat.lt_trans (Crc.xor_lt8 (Nat.mod_lt _ (by omega)) hx) (by omega)) 8) (by omega)
  rw [Crc.up_look, ← e]
  rfl
theorem look_at {R x : Nat} (hx : x < 256) : bits .xor .u8 ((R : Int) % 256) (x : Int) = (((R % 256) ^^^ x : Nat) : Int) := u8_xor_nat (R % 256) x (Nat.mod_lt _ (by omega)) hx
def r0 (s : Int) : Nat := (s % 4294967296).toNat ^^^ 4294967295
theorem not_at {r : Nat} (h : r < 4294967296) : bits .xor .u32 IntKind.u32.max (r : Int) = ((r ^^^ 4294967295 : Nat) : Int) := by
  have e := u32_xor_nat 4294967295 r (by omega) h
  rw [Nat.xor_comm] at e
  exact e
theorem r0_at (s : Int) : bits .xor .u32 IntKind.u32.max (s % 4294967296) = (r0 s : Int) := by
  have e : s % 4294967296 = ((s % 4294967296).toNat : Int) := by omega
  have h := not_at (r := (s % 4294967296).toNat) (by omega)
  rw [← e] at h
  exact h
theorem r0_lt (s : Int) : r0 s < 4294967296 := Crc.xor_lt (by omega) (by omega)
set_option maxHeartbeats 800000 in
set_option maxRecDepth 100000 in
theorem more_any (s : Int) (A : Option Addr) (n C : Nat) (z : Nat → Nat) (w : World) (h : RowV w (.slice A n C) n z) : Calls Tryz.prog 129 #[.int .i64 s, .slice A n C] w (Ans (.int .i64 ((Crc.reg (r0 s) z n ^^^ 4294967295 : Nat) : Int)) w) := by
  have hz := zt_run
  have HV := Lib.hid h
  obtain ⟨_, _, _, hn, _⟩ := id h
  have hn1 := hn.1
  clear h hn
  go_enter Tryz.func129, Tryz.ntmps129
  go_wp2_with fail
  refine (eight_any _).mono ?_
  rintro e w1 ⟨rfl, hch⟩
  have HC := Lib.hid hch
  clear hch
  have HI1 := Lib.hid (show (Tryz.prog.info? 194).map (·.size) = some tab.size by rw [zt_info, tab_size])
  have HI2 := Lib.hid (show zt.size = tab.size by rw [zt_size, tab_size])
  have HA := Lib.hid (heap_alloc_new w1 (.cells zt 194))
  go_wp2_with (refine wpList_store_row (P := Tryz.prog) rfl 194 (.tmp 5) (.tmp 9) rfl w1.heap.size tab rfl rfl 194 zt HA.out HI1.out HI2.out tab_one ?_)
  clear hz
  rw [World.setRow_alloc_new]
  have HV1 := Lib.hid (HV.out.gr (HC.out.alloc tab 194))
  have HB := Lib.hid HV.out.bytes
  have HT := Lib.hid (show ∀ J, J < 256 → (w1.alloc (.cells tab 194)).cell? ⟨w1.heap.size, J, none⟩ = some (.int .u32 (Crc.it 8 J : Int)) from fun J hJ => by
    rw [cell_of_row _ _ J tab 194 (0, 0) (heap_alloc_new w1 _)]; exact tab_at hJ)
  have HC1 := Lib.hid (HC.out.alloc tab 194)
  have HL := Lib.hid (r0_lt s)
  clear HC HV HA HI1 HI2
  obtain ⟨w2, hw2⟩ : ∃ w2, w2 = w1.alloc (.cells tab 194) := ⟨_, rfl⟩
  rw [← hw2] at HV1 HT HC1 ⊢
  clear hw2
  go_loop [6, 8, 15] (fun r _ i => ∃ k : Nat, k ≤ n ∧ i = .int .i64 k ∧ r = .int .u32 (Crc.reg (r0 s) z k : Int)) (fun _ _ i => n - (intOf i).toNat)
  case atStart => exact ⟨0, Nat.zero_le _, rfl, int_eq (r0_at s)⟩
  case round =>
    obtain ⟨k, hk, rfl, rfl⟩ := hrel
    have hRL := Crc.reg_lt HL.out k (fun i hi => HB.out i (by omega))
    obtain ⟨R, hR⟩ : ∃ R, R = Crc.reg (r0 s) z k := ⟨_, rfl⟩
    rw [← hR] at hRL ⊢
    by_cases hlt : k < n
    · have hx := HB.out k hlt
      have HU := Lib.hid (show bits .xor .u32 (Crc.it 8 ((R % 256) ^^^ z k) : Int) ((R : Int) / 256) = (Crc.reg (r0 s) z (k + 1) : Int) by rw [up_at hRL hx, hR]; rfl)
      have e1 := look_at (R := R) hx
      have hJ := Crc.xor_lt8 (Nat.mod_lt R (show 0 < 256 by omega)) hx
      have c1 := HT.out _ hJ
      obtain ⟨J, hj⟩ : ∃ J, J = (R % 256) ^^^ z k := ⟨_, rfl⟩
      rw [← hj] at HU e1 hJ c1
      obtain ⟨_, _, e2, _, h3⟩ := HV1.out
      injection e2 with e2 _ _
      subst e2
      obtain ⟨b', o', rfl, h4⟩ := h3 (by omega)
      have c2 := (h4 k hlt).1
      have tk : decide ((k : Int) < (n : Int)) = true := by simp; omega
      clear h3 h4 hR hj hRL
      go_wp2
      go_round
      case rel => exact ⟨k + 1, by omega, by go_num, int_eq HU.out⟩
      case measure => simp [intOf]; omega
    · obtain rfl : k = n := by omega
      have HE := Lib.hid (show wrap64 (bits .xor .u32 IntKind.u32.max (R : Int)) = ((Crc.reg (r0 s) z k ^^^ 4294967295 : Nat) : Int) by
        have hx := Crc.xor_lt hRL (show 4294967295 < 4294967296 by omega)
        rw [not_at hRL, hR, IntWalk.wrap64_in _ ⟨by omega, by rw [hR] at hx; omega⟩])
      clear hR hRL
      go_wp2
      go_ret
      exact ⟨ret_int HE.out, HC1.out⟩
theorem r0_none : r0 0 = 4294967295 := by decide
theorem sum_any (A : Option Addr) (n C : Nat) (z : Nat → Nat) (w : World) (h : RowV w (.slice A n C) n z) : Calls Tryz.prog 116 #[.slice A n C] w (Ans (.int .i64 (Crc.sumZ n z : Int)) w) := by
  have H := Lib.hid h
  clear h
  go_enter Tryz.func116, Tryz.ntmps116
  go_wp2_with fail
  refine (more_any _ _ _ _ z _ H.out).mono ?_
  rintro e w1 ⟨rfl, hch⟩
  rw [r0_none]
  go_wp2
  go_ret
  exact ⟨rfl, hch⟩
def layL (s : Nat) : Array Value := #[.int .u8 (Crc.byteOf s 0 : Int), .int .u8 (Crc.byteOf s 1 : Int), .int .u8 (Crc.byteOf s 2 : Int), .int .u8 (Crc.byteOf s 3 : Int)]
theorem lay_eq {s : Nat} (h : s < 4294967296) : layL s = #[.int .u8 ((s : Int) % 256), .int .u8 ((s : Int) / 256 % 256), .int .u8 ((s : Int) / 65536 % 256), .int .u8 ((s : Int) / 16777216)] := by
  unfold layL
  rw [show (Crc.byteOf s 0 : Int) = (s : Int) % 256 by unfold Crc.byteOf; simp only [Nat.reducePow]; omega,
    show (Crc.byteOf s 1 : Int) = (s : Int) / 256 % 256 by unfold Crc.byteOf; simp only [Nat.reducePow]; omega,
    show (Crc.byteOf s 2 : Int) = (s : Int) / 65536 % 256 by unfold Crc.byteOf; simp only [Nat.reducePow]; omega,
    show (Crc.byteOf s 3 : Int) = (s : Int) / 16777216 by unfold Crc.byteOf; simp only [Nat.reducePow]; omega]
theorem lay_any (s : Nat) (h : s < 4294967296) (w : World) : Calls Tryz.prog 115 #[.int .i64 (s : Int)] w fun e w' => e = .returned (.slice (some ⟨w.heap.size, 0, none⟩) 4 4) ∧ w.alloc (.cells (layL s) /-t-/5) = w' := by
  go_enter Tryz.func115, Tryz.ntmps115
  go_wp2
  go_ret
  exact ⟨rfl, by rw [lay_eq h]⟩
theorem lay_row (s : Nat) (w : World) : RowV (w.alloc (.cells (layL s) /-t-/5)) (.slice (some ⟨w.heap.size, 0, none⟩) 4 4) 4 (Crc.byteOf s) := by
  refine ⟨_, _, rfl, by omega, fun _ => ⟨_, _, rfl, fun c hc => ⟨?_, Crc.byteOf_lt _ _⟩⟩⟩
  rw [cell_of_row _ _ _ _ _ (0, 0) (heap_alloc_new w _)]
  have : c = 0 ∨ c = 1 ∨ c = 2 ∨ c = 3 := by omega
  rcases this with rfl | rfl | rfl | rfl <;> rfl
end Go.Proofs.YteleknojohnlbaaGreat
namespace Go.Proofs.YteleknojohnlbaaGreat
open Go.RowKit
set_option linter.unusedVariables false
set_option maxRecDepth 100000
theorem text_eqB {n m : Nat} {z y : Nat → Nat} (hz : Bytes n z) (hy : Bytes m y) : ((textOf n z).toList == (textOf m y).toList) = eqB n m z y := by
  rw [ByteArray.toList_eq, ByteArray.toList_eq]
  have e : ((textOf n z).data.toList == (textOf m y).data.toList) = decide (textOf n z = textOf m y) := by
    rw [Bool.eq_iff_iff, beq_iff_eq, decide_eq_true_iff]
    exact ⟨fun h => ByteArray.ext (Array.ext' h), fun h => by rw [h]⟩
  rw [e]
  unfold eqB
  rw [decide_eq_decide]
  exact text_inj hz hy
theorem equal_any (A B : Option Addr) (n m C D : Nat) (z y : Nat → Nat) (w : World) (h : RowV w (.slice A n C) n z) (h2 : RowV w (.slice B m D) m y) : Calls Tryz.prog 49 #[.slice A n C, .slice B m D] w fun e w' => e = .returned (.bool (eqB n m z y)) ∧ w = w' := by
  have c1 := row_text h
  have c2 := row_text h2
  have HE := Lib.hid (text_eqB h.bytes h2.bytes)
  obtain ⟨S, hS⟩ : ∃ S, S = textOf n z := ⟨_, rfl⟩
  obtain ⟨T, hT⟩ : ∃ T, T = textOf m y := ⟨_, rfl⟩
  rw [← hS] at c1 HE
  rw [← hT] at c2 HE
  clear h h2 hS hT
  go_enter Tryz.func49, Tryz.ntmps49
  go_wp2
  go_ret
  exact ⟨ret_bool HE.out, rfl⟩
end Go.Proofs.YteleknojohnlbaaGreat
