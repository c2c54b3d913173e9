/-
  Four bytes in a row, changed one after the other. What was sealed is opened as it was; what was changed by up tto four bytes in a row, or is all noughts, is no block: in plain words. Snapshots, plainly: what was written is told; of what is left all comes again. What a sector opens tto, told by its bytes alone. (Cut out of BlkQ, which imports it: no text of code's is needed.). A damaged sector of a device that nothing waits on (cut out of RinN3: not beside that text); writes one behind the other. A snapshot on a device, plainly: written, damaged here and there, and what is left. A device that may die: what a write leaves, and a crash. (It was LogF; general.). A snapshot that a crash cuts off, plainly.
-/
import Derived.Test.YtlbdopcchoklhaaGreatMh7
import Derived.Test.YtlbdopcchoklhaaGreatMh1
import Derived.Test.YtlbdopcchoklhaaGreatMh9
import Derived.Test.YtlbdopcchoklhaaGreatMh31
import Derived.Test.YtlbdopcchoklhaaGreatMh29
import Derived.Test.YtlbdopcchoklhaaGreatMh28
namespace Go.Proofs.YtlbdopcchoklhaaGreat
open Go.RowKit
set_option linter.unusedVariables false
set_option maxRecDepth 100000

/-- The first k of four bytes from a on have been changed. -/
def fewZ (z y : Nat → Nat) (a k c : Nat) : Nat := if a ≤ c ∧ c < a + k then z c ^^^ y (c - a) else z c
def fewB (y : Nat → Nat) : Nat → Bool
  | 0 => false
  | k + 1 => fewB y k || (y k != 0)
theorem fewZ_step (z y : Nat → Nat) (a k c : Nat) : fewZ z y a (k + 1) c = if c = a + k then z (a + k) ^^^ y k else fewZ z y a k c := by
  unfold fewZ
  by_cases e : c = a + k
  · subst e; rw [if_pos (by omega), if_pos rfl, Nat.add_sub_cancel_left]
  · rw [if_neg e]
    by_cases q : a ≤ c ∧ c < a + k
    · rw [if_pos (by omega), if_pos q]
    · rw [if_neg (by omega), if_neg q]
theorem fewB_four (y : Nat → Nat) : fewB y 4 = false ↔ y 0 = 0 ∧ y 1 = 0 ∧ y 2 = 0 ∧ y 3 = 0 := by
  simp [fewB, and_assoc]
theorem few_whole {n a : Nat} {z y : Nat → Nat} (hz : Bytes n z) (hy : Bytes 4 y) (ha : a ≤ n) : Crc.wholeB (n + 4) (fewZ (Crc.sealZ n z) y a 4) = !fewB y 4 := by
  obtain ⟨d, hd⟩ : ∃ d : Nat → Nat, d = fun c => if a ≤ c ∧ c < a + 4 then y (c - a) else 0 := ⟨_, rfl⟩
  have e : ∀ c, d c = if a ≤ c ∧ c < a + 4 then y (c - a) else 0 := fun c => by rw [hd]
  have d4 : ∀ j, j < 4 → d (a + j) = y j := fun j hj => by rw [e, if_pos (by omega), Nat.add_sub_cancel_left]
  have key := Crc.few (n := n) (at' := a) (z := z) (d := d) hz
    (fun i => by
      rw [e]; split
      · exact hy _ (by omega)
      · omega) ha (fun i hi => by rw [e, if_neg (by omega)])
  have d0 := d4 0 (by omega)
  rw [Nat.add_zero] at d0
  rw [d0, d4 1 (by omega), d4 2 (by omega), d4 3 (by omega), ← fewB_four] at key
  have e2 : Crc.wholeB (n + 4) (fewZ (Crc.sealZ n z) y a 4) = Crc.wholeB (n + 4) (fun i => Crc.sealZ n z i ^^^ d i) := Crc.wholeB_congr fun i _ => by
    unfold fewZ
    rw [e]
    split
    · rfl
    · rw [Nat.xor_zero]
  rw [e2]
  unfold Crc.wholeB
  cases hb : fewB y 4
  · exact decide_eq_true (key.2 hb)
  · exact decide_eq_false fun h => by rw [key.1 h] at hb; cases hb
structure FewRel (w : World) (g n C : Nat) (z y : Nat → Nat) (a k : Nat) (wr : World) : Prop where
  own : wr.ownsRow w.heap.size /-t-/5 1 (.slice (some ⟨g, 0, none⟩) n C) n (bytesL n (fewZ z y a k))
  ch : Ch (fun _ => False) w wr
theorem FewRel.base_le {w : World} {g n C : Nat} {z y : Nat → Nat} {a k : Nat} {wr : World} (h : FewRel w g n C z y a k wr) : w.heap.size ≤ g := (World.ownsRow.lt h.own g rfl).1
theorem FewRel.drew {w : World} {g n C : Nat} {z y : Nat → Nat} {a k : Nat} {wr : World} (h : FewRel w g n C z y a k wr) : FewRel w g n C z y a k wr.drew := ⟨ownsRow_ch h.own (Ch.refl _ _).drew, h.ch.drew⟩
theorem FewRel.step {w : World} {g n C : Nat} {z y : Nat → Nat} {a k : Nat} {wr : World} (h : FewRel w g n C z y a k wr) :
    FewRel w g n C z y a (k + 1) (wr.setCell ⟨g, a + k, none⟩ (.int .u8 ((z (a + k) ^^^ y k : Nat) : Int))) := by
  refine ⟨?_, h.ch.setCell (p := ⟨g, a + k, none⟩) (Or.inr h.base_le) _⟩
  have := (World.ownsRow.stored h.own (a + k) (.int .u8 ((z (a + k) ^^^ y k : Nat) : Int))).1
  rw [bytesL_set] at this
  rw [bytesL_congr fun c _ => fewZ_step z y a k c]
  exact this
end Go.Proofs.YtlbdopcchoklhaaGreat
namespace Go.Proofs.YtlbdopcchoklhaaGreat
open Go.RowKit
set_option linter.unusedVariables false
set_option maxRecDepth 100000

theorem secZ_congr {a b : Bk} (hk : a.kind = b.kind) (hv : a.vol = b.vol) (ha : a.addr = b.addr) (he : a.epoch = b.epoch) (hs : a.seq = b.seq) (hl : a.len = b.len) (hz : ∀ c, c < b.len → a.z c = b.z c) (c : Nat) : secZ a c = secZ b c := by
  have hh : headZ a = headZ b := by
    unfold headZ f1 f2 f3
    rw [hk, hv, ha, he, hs, hl]
  unfold secZ
  rw [hh, hl]
  split
  · rfl
  · split
    · exact hz _ (by omega)
    · rfl
theorem sectZ_congr {a b : Bk} (h : ∀ c, secZ a c = secZ b c) (c : Nat) : sectZ a c = sectZ b c := by
  unfold sectZ Crc.sealZ
  split
  · exact h c
  · rw [Crc.sumZ_congr fun i _ => h i]
theorem sectZ_num {b : Bk} (i : Nat) (hi : i < 4) (hx : f2 b i < 4294967296) : numZ (sectZ b) (4 + i * 4) = f2 b i := by
  have h := fun j (hj : j < 4) => (sectZ_front (b := b) (show 4 + i * 4 + j < 252 by omega)).trans (secZ_num i j hi hj)
  unfold numZ
  rw [show 4 + i * 4 = 4 + i * 4 + 0 from rfl, h 0 (by omega), Nat.add_zero, h 1 (by omega), h 2 (by omega), h 3 (by omega), Crc.byteOf_le4 hx]
structure Same (r b : Bk) : Prop where
  kind : r.kind = b.kind
  vol : r.vol = b.vol
  addr : r.addr = b.addr
  epoch : r.epoch = b.epoch
  seq : r.seq = b.seq
  len : r.len = b.len
  z : ∀ c, c < b.len → r.z c = b.z c
theorem back {b : Bk} (h : mayB b = true) (V : Value) : Same (readB V (sectZ b)) b := by
  obtain ⟨hn, hl⟩ := mayB_iff.1 h
  obtain ⟨k1, k2⟩ := hn.kind
  obtain ⟨v1, v2⟩ := hn.vol
  obtain ⟨a1, a2⟩ := hn.addr
  obtain ⟨e1, e2⟩ := hn.epoch
  obtain ⟨s1, s2⟩ := hn.seq
  have hlong : blkLong (sectZ b) = b.len := by
    unfold blkLong
    have l0 := (sectZ_front (b := b) (show 20 + 0 < 252 by omega)).trans (secZ_len 0 (by omega))
    have l1 := (sectZ_front (b := b) (show 20 + 1 < 252 by omega)).trans (secZ_len 1 (by omega))
    rw [Nat.add_zero] at l0
    rw [l0, l1]
    unfold Crc.byteOf
    simp only [Nat.reducePow]
    omega
  refine ⟨?_, ?_, ?_, ?_, ?_, ?_, fun c hc => ?_⟩
  · show ((sectZ b 2 : Nat) : Int) = b.kind
    rw [sectZ_front (by omega), secZ_first 2 (by omega) (by show b.kind.toNat < 256; omega)]
    show (b.kind.toNat : Int) = b.kind
    omega
  · show ((numZ (sectZ b) 4 : Nat) : Int) = b.vol
    have := sectZ_num (b := b) 0 (by omega) (by show b.vol.toNat < _; omega)
    rw [show 4 = 4 + 0 * 4 from rfl, this]
    show (b.vol.toNat : Int) = b.vol
    omega
  · show ((numZ (sectZ b) 8 : Nat) : Int) = b.addr
    have := sectZ_num (b := b) 1 (by omega) (by show b.addr.toNat < _; omega)
    rw [show 8 = 4 + 1 * 4 from rfl, this]
    show (b.addr.toNat : Int) = b.addr
    omega
  · show ((numZ (sectZ b) 12 : Nat) : Int) = b.epoch
    have := sectZ_num (b := b) 2 (by omega) (by show b.epoch.toNat < _; omega)
    rw [show 12 = 4 + 2 * 4 from rfl, this]
    show (b.epoch.toNat : Int) = b.epoch
    omega
  · show ((numZ (sectZ b) 16 : Nat) : Int) = b.seq
    have := sectZ_num (b := b) 3 (by omega) (by show b.seq.toNat < _; omega)
    rw [show 16 = 4 + 3 * 4 from rfl, this]
    show (b.seq.toNat : Int) = b.seq
    omega
  · show (if blkLong (sectZ b) ≤ 228 then blkLong (sectZ b) else 228) = b.len
    rw [hlong, if_pos hl]
  · show sectZ b (24 + c) = b.z c
    rw [sectZ_front (by omega), secZ_body c hc]
theorem Same.may {r b : Bk} (h : Same r b) : mayB r = mayB b := by
  unfold mayB numB kindB wordsB
  rw [h.kind, h.vol, h.addr, h.epoch, h.seq, h.len]
theorem Same.sect {r b : Bk} (h : Same r b) (c : Nat) : sectZ r c = sectZ b c := sectZ_congr (secZ_congr h.kind h.vol h.addr h.epoch h.seq h.len h.z) c
/-- What opens is whole. -/
theorem opens_whole {z : Nat → Nat} (h : opensB 256 z = true) : Crc.wholeB 256 z = true := by
  rw [opensB_at, Bool.and_eq_true] at h
  have he := (of_decide_eq_true h.2).2
  rw [Crc.wholeB_congr (n := 256) (y := sectZ (readB undef z)) fun i hi => (he i hi).symm]
  exact decide_eq_true Crc.sealed_whole
theorem opens_zero : opensB 256 (fun _ => 0) = false := by
  rw [opensB_at]
  have : eqB 256 256 (sectZ (readB undef fun _ => 0)) (fun _ => 0) = false := decide_eq_false fun q => by
    have e0 := q.2 0 (by omega)
    rw [sectZ_front (by omega), secZ_first 0 (by omega) (by show 81 < 256; omega)] at e0
    cases e0
  rw [this, Bool.and_false]
end Go.Proofs.YtlbdopcchoklhaaGreat
namespace Go.Proofs.YtlbdopcchoklhaaGreat
open Go.RowKit
set_option linter.unusedVariables false
set_option maxRecDepth 100000
set_option linter.unusedSimpArgs false

/-- Of enough shares of data all shares of it come again. -/
theorem snp_back {L : Nat → Nat} {q K : Nat} {X D0 D : Nat → Nat → Nat} (hD0 : AllB D0) (hX : ∀ r c, r < q → 0 < L r → c < 228 → X r c = sharesZ K D0 r c) (hk : K ≤ (idx L q).length) (hq : K ≤ q) (h64 : q ≤ 64) (hD : DataOf L q K 228 X D) (r c : Nat) (hc : c < 228) : sharesZ K D r c = sharesZ K D0 r c :=
  shares_congr (hD.only (data_back hD0 hX hk) (rows_left hk h64 hq)) r c hc
/-- The sector of a share tells it, tto one who asks for its place and number. -/
theorem shr_own {vol ep no : Int} {n : Gn} {a s i : Nat} {Z : Nat → Nat} {z : Nat → Nat} (hm : mayB (shrK vol ep no n a Z undef s i) = true) (hb : ∀ j, Z j < 256) (hz : ∀ c, c < 256 → z c = sectZ (shrK vol ep no n a Z undef s i) c) :
    shrB vol no ((frsN n a s : Int) + (i : Int)) 256 z = true ∧ ∀ c, c < 228 → z (24 + c) = sharesZ n.K (datZ n.K Z s) i c := by
  obtain ⟨b, hbb⟩ : ∃ b, b = shrK vol ep no n a Z undef s i := ⟨_, rfl⟩
  have hlen : b.len = 228 := by rw [hbb]; rfl
  have hby : Bytes b.len b.z := by rw [hbb]; exact fun c _ => shares_b n.K (datZ n.K Z s) i c
  rw [← hbb] at hm hz
  have hsame : Same (readB undef (sectZ b)) b := back hm undef
  have hnum : ∀ j, j + 4 ≤ 256 → numZ z j = numZ (sectZ b) j := fun j hj => by
    unfold numZ
    rw [hz j (by omega), hz (j + 1) (by omega), hz (j + 2) (by omega), hz (j + 3) (by omega)]
  have hlong : blkLong z = blkLong (sectZ b) := by
    unfold blkLong
    rw [hz 20 (by omega), hz 21 (by omega)]
  have e1 : (readB undef z).kind = b.kind := by
    rw [← hsame.kind]
    show ((z 2 : Nat) : Int) = ((sectZ b 2 : Nat) : Int)
    rw [hz 2 (by omega)]
  have e2 : (readB undef z).vol = b.vol := by
    rw [← hsame.vol]
    show ((numZ z 4 : Nat) : Int) = ((numZ (sectZ b) 4 : Nat) : Int)
    rw [hnum 4 (by omega)]
  have e3 : (readB undef z).addr = b.addr := by
    rw [← hsame.addr]
    show ((numZ z 8 : Nat) : Int) = ((numZ (sectZ b) 8 : Nat) : Int)
    rw [hnum 8 (by omega)]
  have e4 : (readB undef z).epoch = b.epoch := by
    rw [← hsame.epoch]
    show ((numZ z 12 : Nat) : Int) = ((numZ (sectZ b) 12 : Nat) : Int)
    rw [hnum 12 (by omega)]
  have e5 : (readB undef z).seq = b.seq := by
    rw [← hsame.seq]
    show ((numZ z 16 : Nat) : Int) = ((numZ (sectZ b) 16 : Nat) : Int)
    rw [hnum 16 (by omega)]
  have e6 : (readB undef z).len = b.len := by
    rw [← hsame.len]
    show (if blkLong z ≤ 228 then blkLong z else 228) = (if blkLong (sectZ b) ≤ 228 then blkLong (sectZ b) else 228)
    rw [hlong]
  have e7 : ∀ c, c < 228 → z (24 + c) = b.z c := fun c hc => by
    rw [← hsame.z c (by omega)]
    show z (24 + c) = sectZ b (24 + c)
    exact hz _ (by omega)
  have hs2 : Same (readB undef z) b := ⟨e1, e2, e3, e4, e5, e6, fun c hc => e7 c (by omega)⟩
  have hop : opensB 256 z = true := by
    rw [opensB_at, hs2.may, hm, Bool.true_and]
    exact decide_eq_true ⟨rfl, fun c hc => by rw [hs2.sect c]; exact (hz c hc).symm⟩
  refine ⟨?_, fun c hc => by rw [e7 c hc, hbb]; rfl⟩
  unfold shrB
  rw [hop, e1, e2, e3, e5, e6, hlen, hbb]
  show (true && (decide ((4 : Int) = 4) && (decide (vol = vol) && (decide (((frsN n a s : Int) + (i : Int)) = ((frsN n a s : Int) + (i : Int))) && (decide (no = no) && decide (228 = 228)))))) = true
  rw [decide_eq_true rfl, decide_eq_true rfl, decide_eq_true rfl, decide_eq_true rfl, decide_eq_true rfl]
  rfl
/-- What does not open tells nothing. -/
theorem shr_bad {vol no ad : Int} {l : Nat} {z : Nat → Nat} (h : opensB l z = false) : shrB vol no ad l z = false := by
  unfold shrB
  rw [h]
  rfl
/-- How many are left. -/
def cntL (b : Nat → Bool) : Nat → Nat
  | 0 => 0
  | n + 1 => cntL b n + (if b n then 1 else 0)
theorem idx_cnt {L : Nat → Nat} {b : Nat → Bool} : ∀ {n : Nat}, (∀ r, r < n → (0 < L r ↔ b r = true)) → (idx L n).length = cntL b n
  | 0, _ => rfl
  | n + 1, h => by
    have ih := idx_cnt (n := n) fun r hr => h r (by omega)
    have hn := h n (by omega)
    unfold cntL
    cases e : b n with
    | true =>
      rw [idx_yes (hn.2 e), List.length_append, ih]
      rfl
    | false =>
      rw [idx_no (fun q => by rw [hn.1 q] at e; cases e), ih]
      rfl
end Go.Proofs.YtlbdopcchoklhaaGreat
namespace Go.Proofs.YtlbdopcchoklhaaGreat
open Go.RowKit
set_option linter.unusedVariables false
set_option maxRecDepth 100000

theorem numZ_at {z y : Nat → Nat} (h : ∀ c, c < 256 → z c = y c) {a : Nat} (ha : a + 3 < 256) : numZ z a = numZ y a := by
  unfold numZ
  rw [h a (by omega), h (a + 1) (by omega), h (a + 2) (by omega), h (a + 3) ha]
theorem readB_at {z y : Nat → Nat} (h : ∀ c, c < 256 → z c = y c) (V U : Value) : Same (readB V z) (readB U y) := by
  have hl : blkLong z = blkLong y := by unfold blkLong; rw [h 20 (by omega), h 21 (by omega)]
  have e : (readB V z).len = (readB U y).len := by
    show (if blkLong z ≤ 228 then blkLong z else 228) = (if blkLong y ≤ 228 then blkLong y else 228)
    rw [hl]
  refine ⟨?_, ?_, ?_, ?_, ?_, e, fun c hc => ?_⟩
  · show ((z 2 : Nat) : Int) = (y 2 : Nat); rw [h 2 (by omega)]
  · show ((numZ z 4 : Nat) : Int) = (numZ y 4 : Nat); rw [numZ_at h (by omega)]
  · show ((numZ z 8 : Nat) : Int) = (numZ y 8 : Nat); rw [numZ_at h (by omega)]
  · show ((numZ z 12 : Nat) : Int) = (numZ y 12 : Nat); rw [numZ_at h (by omega)]
  · show ((numZ z 16 : Nat) : Int) = (numZ y 16 : Nat); rw [numZ_at h (by omega)]
  · have : (readB U y).len ≤ 228 := by show (if blkLong y ≤ 228 then blkLong y else 228) ≤ 228; split <;> omega
    exact h (24 + c) (by omega)
theorem opensB_eq {z y : Nat → Nat} (h : ∀ c, c < 256 → z c = y c) : opensB 256 z = opensB 256 y := by
  have s := readB_at h undef undef
  have e : eqB 256 256 (sectZ (readB undef z)) z = eqB 256 256 (sectZ (readB undef y)) y := by
    unfold eqB
    refine decide_eq_decide.2 ⟨fun q => ⟨rfl, fun c hc => ?_⟩, fun q => ⟨rfl, fun c hc => ?_⟩⟩
    · rw [← h c hc, ← s.sect c]; exact q.2 c hc
    · rw [h c hc, s.sect c]; exact q.2 c hc
  rw [opensB_at, opensB_at, s.may, e]
theorem Same.trans {a b c : Bk} (h : Same a b) (k : Same b c) : Same a c := ⟨h.kind.trans k.kind, h.vol.trans k.vol, h.addr.trans k.addr, h.epoch.trans k.epoch, h.seq.trans k.seq, h.len.trans k.len, fun j hj => (h.z j (by rw [k.len]; exact hj)).trans (k.z j hj)⟩
end Go.Proofs.YtlbdopcchoklhaaGreat
namespace Go.Proofs.YtlbdopcchoklhaaGreat
open Go.RowKit
set_option linter.unusedVariables false
set_option maxRecDepth 100000
set_option linter.unusedSimpArgs false

/-! ### a sector is damaged -/
def faAt (f : Fa) (a : Int) : Fa := ⟨f.kind, a, f.off, 0, 0, f.k0, f.k1, f.k2, f.k3⟩
structure FaBad (f : Fa) : Prop where
  kind : 1 ≤ f.kind ∧ f.kind ≤ 3
  off : 0 ≤ f.off ∧ f.off ≤ 252
  mask : ¬ (f.k0 = 0 ∧ f.k1 = 0 ∧ f.k2 = 0 ∧ f.k3 = 0)
theorem mask_few {f : Fa} (h : FaBad f) (a : Int) : fewB (maskOf (faAt f a)) 4 = true := by
  have e : fewB (maskOf (faAt f a)) 4 = ((((false || (f.k0 != 0)) || (f.k1 != 0)) || (f.k2 != 0)) || (f.k3 != 0)) := rfl
  rw [e]
  cases h0 : f.k0 != 0
  · cases h1 : f.k1 != 0
    · cases h2 : f.k2 != 0
      · cases h3 : f.k3 != 0
        · exact absurd ⟨by simpa using h0, by simpa using h1, by simpa using h2, by simpa using h3⟩ h.mask
        · rfl
      · rfl
    · rfl
  · cases f.k1 != 0 <;> cases f.k2 != 0 <;> cases f.k3 != 0 <;> rfl
theorem few_bad {b : Bk} {z y : Nat → Nat} {a : Nat} (hb : Bytes b.len b.z) (hz : ∀ c, c < 256 → z c = sectZ b c) (hy : Bytes 4 y) (ha : a ≤ 252) (hf : fewB y 4 = true) : opensB 256 (fewZ z y a 4) = false := by
  have e : opensB 256 (fewZ z y a 4) = opensB 256 (fewZ (sectZ b) y a 4) := opensB_eq fun c hc => by
    unfold fewZ
    split
    · rw [hz c hc]
    · exact hz c hc
  rw [e]
  have hw : Crc.wholeB 256 (fewZ (sectZ b) y a 4) = false := by
    have := few_whole (n := 252) (secZ_b hb 252) hy ha
    rw [hf] at this
    exact this
  cases ho : opensB 256 (fewZ (sectZ b) y a 4)
  · rfl
  · rw [opens_whole ho] at hw; cases hw
section
variable {N : Nat} {d : Dev}
theorem settle_fin (h : Fine N d) (k : Nat) : settleD d k = d := by
  unfold settleD
  rw [h.qt.W]
  obtain ⟨n, has, lost, drops, miss, W, dead, armed, left, ops⟩ := d
  have hW : W = [] := h.qt.W
  subst hW
  rfl
/-- A block's sector that is damaged can't be read, or opens no more; the others stay. -/
theorem fault_hurt (h : Fine N d) {f : Fa} (hf : FaOk f) (hb : FaBad f) {k : Nat} (hk : k < N) {b : Bk} (hbb : Bytes b.len b.z) (hz : ∀ c, c < 256 → d.has k c = sectZ b c) :
    Fine N (faultD d (faAt f (k : Int))) ∧ ((faultD d (faAt f (k : Int))).lost k = true ∨ opensB 256 ((faultD d (faAt f (k : Int))).has k) = false) ∧ ∀ a, a ≠ k → (faultD d (faAt f (k : Int))).has a = d.has a ∧ (faultD d (faAt f (k : Int))).lost a = d.lost a := by
  have hh : hasB d (k : Int) = true := decide_eq_true (by rw [h.qt.n]; omega)
  have e0 : faultD d (faAt f (k : Int)) = if f.kind = 1 then rotD d (faAt f (k : Int)) else if f.kind = 2 then blankD d k else if f.kind = 3 then loseD d k else if f.kind = 4 then dropD d (faAt f (k : Int)) else if f.kind = 5 then missD d (faAt f (k : Int)) else d := by
    unfold faultD
    rw [show hasB d (faAt f (k : Int)).pl = true from hh, if_pos rfl]
    rfl
  have hkd := hb.kind
  by_cases k1 : f.kind = 1
  · rw [e0, if_pos k1]
    have er : rotD d (faAt f (k : Int)) = { d with has := up d.has k (fewZ (d.has k) (maskOf (faAt f (k : Int))) f.off.toNat 4) } := by
      unfold rotD
      have ho := hb.off
      rw [if_neg (show ¬ ((faAt f (k : Int)).off < 0 ∨ 256 ≤ (faAt f (k : Int)).off) by show ¬ (f.off < 0 ∨ 256 ≤ f.off); omega)]
      show rotAt (settleD d ((k : Int)).toNat) ((k : Int)).toNat f.off.toNat _ (min 4 (256 - f.off.toNat)) = _
      rw [Int.toNat_natCast, settle_fin h, Nat.min_eq_left (by omega)]
      rfl
    rw [er]
    refine ⟨⟨⟨h.qt.n, h.qt.dead, h.qt.armed, h.qt.W⟩, h.drops, h.miss⟩, Or.inr ?_, fun a ha => ⟨up_other _ _ ha, rfl⟩⟩
    show opensB 256 (up d.has k _ k) = false
    rw [up_same]
    have hoff := hb.off
    exact few_bad hbb hz (fun j _ => mask_lt hf j) (by omega) (mask_few hb _)
  · rw [e0, if_neg k1]
    by_cases k2 : f.kind = 2
    · rw [if_pos k2]
      have er : blankD d k = { d with has := up d.has k (fun _ => 0), lost := up d.lost k false } := by
        unfold blankD
        rw [settle_fin h]
        rfl
      rw [er]
      refine ⟨⟨⟨h.qt.n, h.qt.dead, h.qt.armed, h.qt.W⟩, h.drops, h.miss⟩, Or.inr ?_, fun a ha => ⟨up_other _ _ ha, up_other _ _ ha⟩⟩
      show opensB 256 (up d.has k _ k) = false
      rw [up_same]
      exact opens_zero
    · have k3 : f.kind = 3 := by omega
      rw [if_neg k2, if_pos k3]
      have er : loseD d k = { d with lost := up d.lost k true } := by
        unfold loseD
        rw [settle_fin h]
      rw [er]
      exact ⟨⟨⟨h.qt.n, h.qt.dead, h.qt.armed, h.qt.W⟩, h.drops, h.miss⟩, Or.inl (up_same _ _ _), fun a ha => ⟨rfl, up_other _ _ ha⟩⟩
/-- Writes of sectors that stand in a row. -/
theorem all_row {F : Nat → PutP} {B0 m : Nat} {Y : Nat → Nat → Nat} (hF : ∀ j, j < m → F j = ⟨((B0 + j : Nat) : Int), 256, Y j⟩) (hN : B0 + m ≤ N) (h : Fine N d) : ∀ i, i ≤ m → (allTo F d i).e = 0 ∧ Fine N (allTo F d i).d ∧ (∀ a, a < i → HasZ (allTo F d i).d (B0 + a) (Y a)) ∧ ∀ a, (a < B0 ∨ B0 + i ≤ a) → (allTo F d i).d.has a = d.has a ∧ (allTo F d i).d.lost a = d.lost a
  | 0, _ => ⟨rfl, h, fun a ha => absurd ha (Nat.not_lt_zero a), fun a _ => ⟨rfl, rfl⟩⟩
  | i + 1, hi => by
    obtain ⟨e1, e2, e3, e4⟩ := all_row hF hN h i (by omega)
    obtain ⟨f1, f2, f3, f4⟩ := kep_fine (N := N) (k := B0 + i) (j := 3) (by omega) (Y i) e2
    have e : allTo F d (i + 1) = ⟨kepD 4 (allTo F d i).d (F i), kepE 4 (allTo F d i).d (F i)⟩ := by
      show (if (allTo F d i).e = 0 then _ else _) = _
      rw [if_pos e1]
    rw [e, hF i (by omega)]
    refine ⟨f1, f2, fun a ha => ?_, fun a ha => ?_⟩
    · by_cases q : a = i
      · subst q; exact f3
      · obtain ⟨g1, g2⟩ := f4 (B0 + a) (by omega)
        obtain ⟨g3, g4⟩ := e3 a (by omega)
        exact ⟨g2.trans g3, fun c hc => (congrFun g1 c).trans (g4 c hc)⟩
    · obtain ⟨g1, g2⟩ := f4 a (by omega)
      obtain ⟨g3, g4⟩ := e4 a (by omega)
      exact ⟨g1.trans g3, g2.trans g4⟩
end
end Go.Proofs.YtlbdopcchoklhaaGreat
namespace Go.Proofs.YtlbdopcchoklhaaGreat
open Go.RowKit
set_option linter.unusedVariables false
set_option maxRecDepth 100000
set_option linter.unusedSimpArgs false

theorem frsN_row (n : Gn) (a j : Nat) : frsN n a (j / n.q) + j % n.q = frsN n a 0 + j := by
  unfold frsN
  have h1 : (a * n.S + j / n.q) * n.q = (a * n.S + 0) * n.q + j / n.q * n.q := by rw [Nat.add_zero, Nat.add_mul]
  have h2 := Nat.div_add_mod j n.q
  rw [Nat.mul_comm] at h2
  omega
theorem shrB_eq {vol no ad : Int} {z y : Nat → Nat} (h : ∀ c, c < 256 → z c = y c) : shrB vol no ad 256 z = shrB vol no ad 256 y := by
  have s := readB_at h undef undef
  unfold shrB
  rw [opensB_eq h, s.kind, s.vol, s.addr, s.seq, s.len]
/-- Some sectors that stand in a row are damaged. -/
def huS (f : Fa) (hu : Nat → Bool) (B0 : Nat) (d : Dev) : Nat → Dev
  | 0 => d
  | k + 1 => if hu k then faultD (huS f hu B0 d k) (faAt f ((B0 + k : Nat) : Int)) else huS f hu B0 d k
section
variable {N : Nat} {d : Dev} {vol ep no : Int} {n : Gn} {a : Nat} {Z : Nat → Nat}
/-- What is there of a snapshot: each share's sector, or damage. -/
structure SnpOn (N : Nat) (d : Dev) (vol ep no : Int) (n : Gn) (a : Nat) (Z : Nat → Nat) (hu : Nat → Bool) : Prop where
  fine : Fine N d
  good : ∀ j, j < n.S * n.q → hu j = false → HasZ d (frsN n a 0 + j) (sectZ (shrK vol ep no n a Z undef (j / n.q) (j % n.q)))
  bad : ∀ j, j < n.S * n.q → hu j = true → d.lost (frsN n a 0 + j) = true ∨ shrB vol no ((frsN n a 0 + j : Nat) : Int) 256 (d.has (frsN n a 0 + j)) = false
theorem snp_written (h : Fine N d) (hN : frsN n a 0 + n.S * n.q ≤ N) : (allTo (snpP vol ep no n a Z) d (n.S * n.q)).e = 0 ∧ SnpOn N (allTo (snpP vol ep no n a Z) d (n.S * n.q)).d vol ep no n a Z (fun _ => false) ∧ ∀ b, (b < frsN n a 0 ∨ frsN n a 0 + n.S * n.q ≤ b) → (allTo (snpP vol ep no n a Z) d (n.S * n.q)).d.has b = d.has b ∧ (allTo (snpP vol ep no n a Z) d (n.S * n.q)).d.lost b = d.lost b := by
  obtain ⟨h1, h2, h3, h4⟩ := all_row (F := snpP vol ep no n a Z) (B0 := frsN n a 0) (m := n.S * n.q) (Y := fun j => sectZ (shrK vol ep no n a Z undef (j / n.q) (j % n.q))) (fun j _ => by
    unfold snpP
    rw [← frsN_row n a j]
    simp) hN h (n.S * n.q) (Nat.le_refl _)
  exact ⟨h1, ⟨h2, fun j hj _ => h3 j hj, fun j _ e => by cases e⟩, h4⟩
theorem snp_hurt (hw : SnpOn N d vol ep no n a Z (fun _ => false)) (hN : frsN n a 0 + n.S * n.q ≤ N) (hZ : ∀ i, Z i < 256) {f : Fa} (hf : FaOk f) (hb : FaBad f) (hu : Nat → Bool) : ∀ k, k ≤ n.S * n.q → SnpOn N (huS f hu (frsN n a 0) d k) vol ep no n a Z (fun j => decide (j < k) && hu j)
  | 0, _ => ⟨hw.fine, fun j hj _ => hw.good j hj rfl, fun j _ e => by simp at e⟩
  | k + 1, hk => by
    have ih := snp_hurt hw hN hZ hf hb hu k (by omega)
    show SnpOn N (if hu k then faultD (huS f hu (frsN n a 0) d k) (faAt f ((frsN n a 0 + k : Nat) : Int)) else huS f hu (frsN n a 0) d k) _ _ _ _ _ _ _
    cases e : hu k with
    | false =>
      have key : ∀ j, (decide (j < k + 1) && hu j) = (decide (j < k) && hu j) := fun j => by
        by_cases q : j = k
        · subst q; rw [e, Bool.and_false, Bool.and_false]
        · rw [decide_eq_decide.2 (show j < k + 1 ↔ j < k by omega)]
      refine ⟨ih.fine, fun j hj q => ih.good j hj (by rw [← key j]; exact q), fun j hj q => ih.bad j hj (by rw [← key j]; exact q)⟩
    | true =>
      have hg := ih.good k (by omega) (by simp)
      obtain ⟨f1, f2, f3⟩ := fault_hurt ih.fine hf hb (k := frsN n a 0 + k) (by omega) (b := shrK vol ep no n a Z undef (k / n.q) (k % n.q)) (fun c _ => shares_b n.K (datZ n.K Z (k / n.q)) (k % n.q) c) hg.2
      refine ⟨f1, fun j hj q => ?_, fun j hj q => ?_⟩
      · have hne : j ≠ k := fun x => by
          subst x
          rw [e, decide_eq_true (Nat.lt_succ_self _)] at q
          cases q
        have h := ih.good j hj (by
          cases e2 : hu j with
          | false => rw [Bool.and_false]
          | true =>
            rw [e2, Bool.and_true] at q
            have := of_decide_eq_false q
            rw [decide_eq_false (by omega)]; rfl)
        obtain ⟨g1, g2⟩ := f3 (frsN n a 0 + j) (by omega)
        exact ⟨g2.trans h.1, fun c hc => (congrFun g1 c).trans (h.2 c hc)⟩
      · by_cases x : j = k
        · subst x; exact f2.imp id fun h => shr_bad h
        · have h := ih.bad j hj (by
            obtain ⟨q1, q2⟩ := Bool.and_eq_true_iff.1 q
            rw [q2, decide_eq_true (by have := of_decide_eq_true q1; omega)]; rfl)
          obtain ⟨g1, g2⟩ := f3 (frsN n a 0 + j) (by omega)
          rcases h with h | h
          · exact Or.inl (g2.trans h)
          · exact Or.inr ((congrArg (shrB vol no ((frsN n a 0 + j : Nat) : Int) 256) g1).trans h)
/-- What is read of a sector of it tells its share, just where it is not damaged. -/
theorem snp_told {hu : Nat → Bool} (hw : SnpOn N d vol ep no n a Z hu) (hn : n.Ok) (ha : a ≤ 1) (hv : 0 ≤ vol ∧ vol ≤ 4294967295) (he : 0 ≤ ep ∧ ep ≤ 4294967295) (ho : 0 ≤ no ∧ no ≤ 4294967295) (hZ : ∀ i, Z i < 256) {s i : Nat} (hs : s < n.S) (hi : i < n.q) {l : Nat} {z : Nat → Nat}
    (hl : d.lost (frsN n a s + i) = true → l = 0) (hz : d.lost (frsN n a s + i) = false → l = 256 ∧ ∀ c, c < 256 → z c = d.has (frsN n a s + i) c) :
    shrB vol no ((frsN n a s : Int) + (i : Int)) l z = !hu (s * n.q + i) ∧ (hu (s * n.q + i) = false → ∀ c, c < 228 → z (24 + c) = sharesZ n.K (datZ n.K Z s) i c) := by
  have e1 : (s * n.q + i) / n.q = s := by rw [Nat.add_comm, Nat.add_mul_div_right _ _ (by omega), Nat.div_eq_of_lt hi, Nat.zero_add]
  have e2 : (s * n.q + i) % n.q = i := by rw [Nat.add_comm, Nat.add_mul_mod_self_right, Nat.mod_eq_of_lt hi]
  have e3 : frsN n a 0 + (s * n.q + i) = frsN n a s + i := by
    rw [← frsN_row n a (s * n.q + i), e1, e2]
  have hj : s * n.q + i < n.S * n.q := by
    have h1 : (s + 1) * n.q ≤ n.S * n.q := Nat.mul_le_mul_right _ hs
    rw [Nat.add_mul, Nat.one_mul] at h1
    omega
  cases hb : hu (s * n.q + i) with
  | false =>
    have hg := hw.good _ hj hb
    rw [e1, e2, e3] at hg
    obtain ⟨rfl, hz'⟩ := hz hg.1
    obtain ⟨h1, h2⟩ := shr_own (vol := vol) (ep := ep) (no := no) (n := n) (a := a) (s := s) (i := i) (Z := Z) (z := z) (shr_may hn ha hs hi hv he ho) hZ (fun c hc => (hz' c hc).trans (hg.2 c hc))
    exact ⟨h1, fun _ => h2⟩
  | true =>
    have hg := hw.bad _ hj hb
    rw [e3] at hg
    refine ⟨?_, fun q => by cases q⟩
    cases hlo : d.lost (frsN n a s + i) with
    | true =>
      rw [hl hlo]
      exact shr_bad (opensB_long _ (by decide))
    | false =>
      obtain ⟨rfl, hz'⟩ := hz hlo
      rcases hg with q | q
      · rw [hlo] at q; cases q
      · rw [shrB_eq hz', ← Int.natCast_add]; exact q
end
end Go.Proofs.YtlbdopcchoklhaaGreat
namespace Go.Proofs.YtlbdopcchoklhaaGreat
open Go.RowKit
set_option linter.unusedVariables false
set_option maxRecDepth 100000
set_option linter.unusedSimpArgs false

/-- No write goes wrong, nothing waits; it may be armed. -/
structure Live (N : Nat) (d : Dev) : Prop where
  n : d.n = N
  dead : d.dead = false
  W : d.W = []
  drops : ∀ a, d.drops a = 0
  miss : ∀ a, d.miss a = []
/-- It died in the midst of a write: at most that one waits. -/
structure Dying (N : Nat) (d : Dev) (k : Nat) (z : Nat → Nat) (d' : Dev) : Prop where
  n : d'.n = N
  has : d'.has = d.has
  lost : d'.lost = d.lost
  drops : ∀ a, d'.drops a = 0
  miss : ∀ a, d'.miss a = []
  W : d'.W = [] ∨ d'.W = [⟨k, z⟩]
/-- It has been written. -/
structure Wrote (N : Nat) (d : Dev) (k : Nat) (z : Nat → Nat) (d' : Dev) : Prop where
  live : Live N d'
  has : HasZ d' k z
  other : ∀ a, a ≠ k → d'.has a = d.has a ∧ d'.lost a = d.lost a
end Go.Proofs.YtlbdopcchoklhaaGreat
namespace Go.Proofs.YtlbdopcchoklhaaGreat
open Go.RowKit
set_option linter.unusedVariables false
set_option maxRecDepth 100000
set_option linter.unusedSimpArgs false

section
variable {N : Nat} {d : Dev}
variable {vol ep no : Int} {n : Gn} {a : Nat} {Z : Nat → Nat}
end
end Go.Proofs.YtlbdopcchoklhaaGreat
