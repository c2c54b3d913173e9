/-
  A block in plain words: its numbers, which it may have, its sector; what lies in memory of one.
-/
import Derived.Test.YtennkpjmdhidaaaWpl
import Derived.Test.YtennkpjmdhidaaaSame
import Derived.Test.YtennkpjmdhidaaaCrcM
import Derived.Test.YtennkpjmdhidaaaLit
namespace Go.Proofs.Ytennkpjmdhidaaa
open Go.RowKit
set_option linter.unusedVariables false

/-- A block: its numbers, its body (V: where that lies). -/
structure Bk where
  kind : Int
  vol : Int
  addr : Int
  epoch : Int
  seq : Int
  V : Value
  len : Nat
  z : Nat → Nat
def bkC (b : Bk) : Array Value := #[.int .i64 b.kind, .int .i64 b.vol, .int .i64 b.addr, .int .i64 b.epoch, .int .i64 b.seq, b.V]
def N64 (x : Int) : Prop := -9223372036854775808 ≤ x ∧ x ≤ 9223372036854775807
structure BkIs (w : World) (b : Bk) : Prop where
  kind : N64 b.kind
  vol : N64 b.vol
  addr : N64 b.addr
  epoch : N64 b.epoch
  seq : N64 b.seq
  row : RowV w b.V b.len b.z
theorem BkIs.gr {w w' : World} {b : Bk} (h : BkIs w b) (k : Ch (fun _ => False) w w') : BkIs w' b := ⟨h.kind, h.vol, h.addr, h.epoch, h.seq, h.row.gr k⟩
theorem BkIs.ch {S : Nat → Prop} {w w' : World} {b : Bk} (h : BkIs w b) (k : Ch S w w') (hS : ∀ i, i < w.heap.size → ¬ S i) : BkIs w' b := ⟨h.kind, h.vol, h.addr, h.epoch, h.seq, h.row.ch k hS⟩

/-! ### which numbers may be -/
def wordB (x : Int) : Bool := decide (0 ≤ x ∧ x ≤ 4294967295)
def wordsB (b : Bk) : Bool := wordB b.vol && (wordB b.addr && (wordB b.epoch && wordB b.seq))
def kindB (b : Bk) : Bool := decide (1 ≤ b.kind ∧ b.kind ≤ 4)
def numB (b : Bk) : Bool := kindB b && wordsB b
def mayB (b : Bk) : Bool := numB b && decide (b.len ≤ 228)
structure Num (b : Bk) : Prop where
  kind : 1 ≤ b.kind ∧ b.kind ≤ 4
  vol : 0 ≤ b.vol ∧ b.vol ≤ 4294967295
  addr : 0 ≤ b.addr ∧ b.addr ≤ 4294967295
  epoch : 0 ≤ b.epoch ∧ b.epoch ≤ 4294967295
  seq : 0 ≤ b.seq ∧ b.seq ≤ 4294967295
theorem wordB_iff {x : Int} : wordB x = true ↔ 0 ≤ x ∧ x ≤ 4294967295 := decide_eq_true_iff
theorem numB_iff {b : Bk} : numB b = true ↔ Num b := by
  unfold numB wordsB kindB
  simp only [Bool.and_eq_true, wordB_iff, decide_eq_true_iff]
  exact ⟨fun ⟨a, c, d, e, f⟩ => ⟨a, c, d, e, f⟩, fun h => ⟨h.kind, h.vol, h.addr, h.epoch, h.seq⟩⟩
theorem mayB_iff {b : Bk} : mayB b = true ↔ Num b ∧ b.len ≤ 228 := by
  unfold mayB
  rw [Bool.and_eq_true, numB_iff, decide_eq_true_iff]

/-! ### the sector -/
/-- Numbers behind the first k bytes, each as so many bytes, the lowest one first. -/
def layZ (k : Nat) (z : Nat → Nat) (wide : Nat) (F : Nat → Nat) (c : Nat) : Nat := if c < k then z c else Crc.byteOf (F ((c - k) / wide)) ((c - k) % wide)
theorem layZ_b {k m : Nat} {z : Nat → Nat} (wide : Nat) (F : Nat → Nat) (hz : Bytes k z) : Bytes m (layZ k z wide F) := fun c _ => by
  unfold layZ; split
  · exact hz c (by assumption)
  · exact Crc.byteOf_lt _ _
/-- The numbers ahead of a body: a mark and the kind; the four; how long the body is. -/
def f1 (b : Bk) : Nat → Nat := litZ [81, 77, b.kind.toNat, 0]
def f2 (b : Bk) : Nat → Nat := litZ [b.vol.toNat, b.addr.toNat, b.epoch.toNat, b.seq.toNat]
def f3 (b : Bk) : Nat → Nat := litZ [b.len, 0]
def headZ (b : Bk) : Nat → Nat := layZ 20 (layZ 4 (layZ 0 (fun _ => 0) 1 (f1 b)) 4 (f2 b)) 2 (f3 b)
theorem none_b {z : Nat → Nat} : Bytes 0 z := fun c hc => absurd hc (Nat.not_lt_zero c)
theorem headZ_b (b : Bk) (m : Nat) : Bytes m (headZ b) := layZ_b _ _ (layZ_b _ _ (layZ_b _ _ none_b))
/-- Ahead of the sum. -/
def secZ (b : Bk) (c : Nat) : Nat := if c < 24 then headZ b c else if c < 24 + b.len then b.z (c - 24) else 0
theorem secZ_b {b : Bk} (h : Bytes b.len b.z) (m : Nat) : Bytes m (secZ b) := fun c _ => by
  unfold secZ
  split
  · exact headZ_b b 24 c (by assumption)
  · split
    · exact h _ (by omega)
    · omega
def sectZ (b : Bk) : Nat → Nat := Crc.sealZ 252 (secZ b)
theorem sectZ_b {b : Bk} (h : Bytes b.len b.z) (m : Nat) : Bytes m (sectZ b) := fun c _ => Crc.sealZ_lt (secZ_b h 252) c
theorem sectZ_front {b : Bk} {c : Nat} (h : c < 252) : sectZ b c = secZ b c := by unfold sectZ Crc.sealZ; rw [if_pos h]
theorem sectZ_head {b : Bk} {c : Nat} (h : c < 24) : sectZ b c = headZ b c := by rw [sectZ_front (by omega)]; unfold secZ; rw [if_pos h]
/-- The answer to Seal. -/
def sealE (b : Bk) : Int := if numB b then (if b.len ≤ 228 then 0 else 2) else 1
def sealN (b : Bk) : Nat := if mayB b then 256 else 0
theorem sealE_may {b : Bk} : mayB b = decide (sealE b = 0) := by
  unfold mayB sealE
  by_cases h : numB b
  · rw [if_pos h, h, Bool.true_and]
    by_cases h2 : b.len ≤ 228
    · rw [if_pos h2, decide_eq_true h2]; rfl
    · rw [if_neg h2, decide_eq_false h2]; rfl
  · rw [if_neg h]
    have : numB b = false := by simpa using h
    rw [this]; rfl

/-! ### what is read -/
def numZ (z : Nat → Nat) (a : Nat) : Nat := Crc.le4 (z a) (z (a + 1)) (z (a + 2)) (z (a + 3))
def longZ (z : Nat → Nat) : Nat := z 20 + 256 * z 21
def readB (V : Value) (z : Nat → Nat) : Bk := ⟨z 2, numZ z 4, numZ z 8, numZ z 12, numZ z 16, V, if longZ z ≤ 228 then longZ z else 228, fun c => z (24 + c)⟩
/-- Is it the sector of the block that it would be of? -/
def opensB (n : Nat) (z : Nat → Nat) : Bool := decide (n = 256) && (mayB (readB undef z) && eqB 256 256 (sectZ (readB undef z)) z)
def openE (n : Nat) (z : Nat → Nat) : Int := if n = 256 then (if opensB n z then 0 else 7) else 1
def bk0 : Bk := ⟨0, 0, 0, 0, 0, .slice none 0 0, 0, fun _ => 0⟩
/-- Apart from where the body lies. -/
def likeB (a b : Bk) : Bool := eqB a.len b.len a.z b.z && (decide (a.kind = b.kind) && (decide (a.vol = b.vol) && (decide (a.addr = b.addr) && (decide (a.epoch = b.epoch) && decide (a.seq = b.seq)))))
def classOf (n : Nat) (z : Nat → Nat) (want : Bk) : Int :=
  if opensB n z then
    (if (readB undef z).vol = want.vol ∧ (readB undef z).addr = want.addr then
      (if (readB undef z).kind = want.kind ∧ (readB undef z).epoch = want.epoch ∧ (readB undef z).seq = want.seq then 1 else 2)
    else 3)
  else 4
#print axioms numB_iff
end Go.Proofs.Ytennkpjmdhidaaa
