/-
  What was sealed is opened as it was; what was changed by up to four bytes in a row, or is all noughts, is no block: in plain words.
-/
import Derived.Test.YtennkpjmdhidaaaBlkI
import Derived.Test.YtennkpjmdhidaaaFew
namespace Go.Proofs.Ytennkpjmdhidaaa
open Go.RowKit
set_option linter.unusedVariables false

theorem secZ_congr {a b : Bk} (hk : a.kind = b.kind) (hv : a.vol = b.vol) (ha : a.addr = b.addr) (he : a.epoch = b.epoch) (hs : a.seq = b.seq) (hl : a.len = b.len) (hz : ∀ c, c < b.len → a.z c = b.z c) (c : Nat) : secZ a c = secZ b c := by
  have hh : headZ a = headZ b := by
    unfold headZ f1 f2 f3
    rw [hk, hv, ha, he, hs, hl]
  unfold secZ
  rw [hh, hl]
  split
  · rfl
  · split
    · exact hz _ (by omega)
    · rfl
theorem sectZ_congr {a b : Bk} (h : ∀ c, secZ a c = secZ b c) (c : Nat) : sectZ a c = sectZ b c := by
  unfold sectZ Crc.sealZ
  split
  · exact h c
  · rw [Crc.sumZ_congr fun i _ => h i]
theorem sectZ_num {b : Bk} (i : Nat) (hi : i < 4) (hx : f2 b i < 4294967296) : numZ (sectZ b) (4 + i * 4) = f2 b i := by
  have h := fun j (hj : j < 4) => (sectZ_front (b := b) (show 4 + i * 4 + j < 252 by omega)).trans (secZ_num i j hi hj)
  unfold numZ
  rw [show 4 + i * 4 = 4 + i * 4 + 0 from rfl, h 0 (by omega), Nat.add_zero, h 1 (by omega), h 2 (by omega), h 3 (by omega), Crc.byteOf_le4 hx]
structure Same (r b : Bk) : Prop where
  kind : r.kind = b.kind
  vol : r.vol = b.vol
  addr : r.addr = b.addr
  epoch : r.epoch = b.epoch
  seq : r.seq = b.seq
  len : r.len = b.len
  z : ∀ c, c < b.len → r.z c = b.z c
theorem back {b : Bk} (h : mayB b = true) (V : Value) : Same (readB V (sectZ b)) b := by
  obtain ⟨hn, hl⟩ := mayB_iff.1 h
  obtain ⟨k1, k2⟩ := hn.kind
  obtain ⟨v1, v2⟩ := hn.vol
  obtain ⟨a1, a2⟩ := hn.addr
  obtain ⟨e1, e2⟩ := hn.epoch
  obtain ⟨s1, s2⟩ := hn.seq
  have hlong : longZ (sectZ b) = b.len := by
    unfold longZ
    have l0 := (sectZ_front (b := b) (show 20 + 0 < 252 by omega)).trans (secZ_len 0 (by omega))
    have l1 := (sectZ_front (b := b) (show 20 + 1 < 252 by omega)).trans (secZ_len 1 (by omega))
    rw [Nat.add_zero] at l0
    rw [l0, l1]
    unfold Crc.byteOf
    simp only [Nat.reducePow]
    omega
  refine ⟨?_, ?_, ?_, ?_, ?_, ?_, fun c hc => ?_⟩
  · show ((sectZ b 2 : Nat) : Int) = b.kind
    rw [sectZ_front (by omega), secZ_first 2 (by omega) (by show b.kind.toNat < 256; omega)]
    show (b.kind.toNat : Int) = b.kind
    omega
  · show ((numZ (sectZ b) 4 : Nat) : Int) = b.vol
    have := sectZ_num (b := b) 0 (by omega) (by show b.vol.toNat < _; omega)
    rw [show 4 = 4 + 0 * 4 from rfl, this]
    show (b.vol.toNat : Int) = b.vol
    omega
  · show ((numZ (sectZ b) 8 : Nat) : Int) = b.addr
    have := sectZ_num (b := b) 1 (by omega) (by show b.addr.toNat < _; omega)
    rw [show 8 = 4 + 1 * 4 from rfl, this]
    show (b.addr.toNat : Int) = b.addr
    omega
  · show ((numZ (sectZ b) 12 : Nat) : Int) = b.epoch
    have := sectZ_num (b := b) 2 (by omega) (by show b.epoch.toNat < _; omega)
    rw [show 12 = 4 + 2 * 4 from rfl, this]
    show (b.epoch.toNat : Int) = b.epoch
    omega
  · show ((numZ (sectZ b) 16 : Nat) : Int) = b.seq
    have := sectZ_num (b := b) 3 (by omega) (by show b.seq.toNat < _; omega)
    rw [show 16 = 4 + 3 * 4 from rfl, this]
    show (b.seq.toNat : Int) = b.seq
    omega
  · show (if longZ (sectZ b) ≤ 228 then longZ (sectZ b) else 228) = b.len
    rw [hlong, if_pos hl]
  · show sectZ b (24 + c) = b.z c
    rw [sectZ_front (by omega), secZ_body c hc]
theorem Same.may {r b : Bk} (h : Same r b) : mayB r = mayB b := by
  unfold mayB numB kindB wordsB
  rw [h.kind, h.vol, h.addr, h.epoch, h.seq, h.len]
theorem Same.sect {r b : Bk} (h : Same r b) (c : Nat) : sectZ r c = sectZ b c := sectZ_congr (secZ_congr h.kind h.vol h.addr h.epoch h.seq h.len h.z) c
theorem Same.like {r b : Bk} (h : Same r b) : likeB b r = true := by
  unfold likeB
  rw [h.kind, h.vol, h.addr, h.epoch, h.seq]
  have : eqB b.len r.len b.z r.z = true := decide_eq_true ⟨h.len.symm, fun c hc => (h.z c hc).symm⟩
  rw [this]
  simp
theorem opensB_own {b : Bk} (h : mayB b = true) : opensB 256 (sectZ b) = true := by
  have s := back h undef
  rw [opensB_at, s.may, h, Bool.true_and]
  exact decide_eq_true ⟨rfl, fun c _ => s.sect c⟩
theorem openE_own {b : Bk} (h : mayB b = true) : openE 256 (sectZ b) = 0 := openE_zero.2 (opensB_own h)
theorem class_own {b want : Bk} (h : mayB b = true) : classOf 256 (sectZ b) want = classQ (b.vol != want.vol) (b.addr != want.addr) (b.kind != want.kind) (b.epoch != want.epoch) (b.seq != want.seq) := by
  have s := back h undef
  rw [classOf_yes (opensB_own h) undef rfl, s.kind, s.vol, s.addr, s.epoch, s.seq]
theorem class_self {b want : Bk} (h : mayB b = true) (hk : b.kind = want.kind) (hv : b.vol = want.vol) (ha : b.addr = want.addr) (he : b.epoch = want.epoch) (hs : b.seq = want.seq) : classOf 256 (sectZ b) want = 1 := by
  rw [class_own h, hk, hv, ha, he, hs]
  simp [classQ]
/-- What opens is whole. -/
theorem opens_whole {z : Nat → Nat} (h : opensB 256 z = true) : Crc.wholeB 256 z = true := by
  rw [opensB_at, Bool.and_eq_true] at h
  have he := (of_decide_eq_true h.2).2
  rw [Crc.wholeB_congr (n := 256) (y := sectZ (readB undef z)) fun i hi => (he i hi).symm]
  exact decide_eq_true Crc.sealed_whole
theorem opens_zero : opensB 256 (fun _ => 0) = false := by
  rw [opensB_at]
  have : eqB 256 256 (sectZ (readB undef fun _ => 0)) (fun _ => 0) = false := decide_eq_false fun q => by
    have e0 := q.2 0 (by omega)
    rw [sectZ_front (by omega), secZ_first 0 (by omega) (by show 81 < 256; omega)] at e0
    cases e0
  rw [this, Bool.and_false]
theorem class_zero (want : Bk) : classOf 256 (fun _ => 0) want = 4 := classOf_no opens_zero
theorem class_few {b want : Bk} {y : Nat → Nat} {a : Nat} (hb : Bytes b.len b.z) (hy : Bytes 4 y) (ha : a ≤ 252) (hf : fewB y 4 = true) : classOf 256 (fewZ (sectZ b) y a 4) want = 4 := by
  refine classOf_no ?_
  have hw : Crc.wholeB 256 (fewZ (sectZ b) y a 4) = false := by
    have := few_whole (n := 252) (secZ_b hb 252) hy ha
    rw [hf] at this
    exact this
  cases h : opensB 256 (fewZ (sectZ b) y a 4)
  · rfl
  · rw [opens_whole h] at hw
    cases hw
#print axioms class_own
#print axioms class_few
end Go.Proofs.Ytennkpjmdhidaaa
