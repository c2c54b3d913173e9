/-
  The document's Same (quartermasterref04), walked. The sum of chapter 4 in plain numbers: its step is linear and loses nothing, so a run of up tto four bytes that are changed is never lost. Bytes that are written out in the program (a row of consts in new memory), read. A block in plain words: its numbers, which it may have, its sector; what lies in memory of one. block.areWords and numbersMay, walked; a block in a variable.
-/
import Derived.Test.YtlbdopcchoklhaaGreatMh1
import Derived.Test.YtlbdopcchoklhaaGreatProg
namespace Go.Proofs.YtlbdopcchoklhaaGreat
open Go.RowKit
set_option linter.unusedVariables false
set_option maxRecDepth 100000

def eqB (n m : Nat) (z y : Nat → Nat) : Bool := decide (n = m ∧ ∀ c, c < n → z c = y c)
/-! ### Same -/
theorem RowV.at {w : World} {A : Option Addr} {n C : Nat} {z : Nat → Nat} (h : RowV w (.slice A n C) n z) (hn : 0 < n) : ∃ b o, A = some ⟨b, o, none⟩ ∧ ∀ c, c < n → w.cell? ⟨b, o + c, none⟩ = some (.int .u8 (z c : Int)) := by
  obtain ⟨_, _, e, _, h3⟩ := h
  injection e with e _ _
  subst e
  obtain ⟨b, o, rfl, h4⟩ := h3 hn
  exact ⟨b, o, rfl, fun c hc => (h4 c hc).1⟩
set_option maxHeartbeats 800000 in
set_option maxRecDepth 100000 in
theorem same_any (A B : Option Addr) (n m C D : Nat) (z y : Nat → Nat) (w : World) (h : RowV w (.slice A n C) n z) (h2 : RowV w (.slice B m D) m y) : Calls Tryz.prog 15 #[.slice A n C, .slice B m D] w (Qu (.bool (eqB n m z y)) w) := by
  obtain ⟨_, _, _, hl, _⟩ := id h
  have hl1 := hl.1
  obtain ⟨_, _, _, hm, _⟩ := id h2
  have hm1 := hm.1
  clear hl hm
  by_cases e : n = m
  · subst e
    have t1 : ((n : Int) != (n : Int)) = false := by simp
    have HV := Lib.hid h
    have HV2 := Lib.hid h2
    clear h h2
    go_enter Tryz.func15, Tryz.ntmps15
    go_wp2
    go_loopw [5] (fun i wr => ∃ k : Nat, k ≤ n ∧ i = .int .i64 k ∧ (∃ d, wr = w.drewN d) ∧ Hid (∀ c, c < k → z c = y c)) (fun i _ => n - (intOf i).toNat)
    case atStart => exact ⟨0, Nat.zero_le _, rfl, ⟨0, rfl⟩, fun c hc => absurd hc (Nat.not_lt_zero c)⟩
    case round =>
      obtain ⟨k, hk, rfl, ⟨d, rfl⟩, HK⟩ := hrel
      by_cases hlt : k < n
      · obtain ⟨b, o, rfl, hc⟩ := HV.out.at (by omega)
        obtain ⟨b2, o2, rfl, hc2⟩ := HV2.out.at (by omega)
        have c1 := hc k hlt
        have c2 := hc2 k hlt
        have i1 : (0 : Int) ≤ (k : Int) := Int.natCast_nonneg _
        have i2 : (k : Int) < (n : Int) := by omega
        clear hc hc2
        by_cases q : z k = y k
        · have t2 : ((z k : Int) != (y k : Int)) = false := by simp [q]
          have HS : Hid (∀ c, c < k + 1 → z c = y c) := fun c hc => by
            by_cases e : c = k
            · rw [e]; exact q
            · exact HK c (by omega)
          clear q
          go_wp2
          go_quiet (fail)
          go_wp2
          go_roundw
          case rel => exact ⟨k + 1, by omega, by go_num, ⟨_, rfl⟩, HS⟩
          case measure => simp [intOf]; omega
        · have t2 : ((z k : Int) != (y k : Int)) = true := by simp; omega
          have HS := Lib.hid (show eqB n n z y = false from decide_eq_false fun h => q (h.2 k hlt))
          clear q
          go_wp2
          go_quiet (fail)
          go_wp2
          go_ret
          exact ⟨ret_bool HS.out.symm, _, World.drewN_drewN _ _ _⟩
      · obtain rfl : k = n := by omega
        have HS := Lib.hid (show eqB k k z y = true from decide_eq_true ⟨rfl, HK.out⟩)
        go_wp2
        go_ret
        exact ⟨ret_bool HS.out.symm, _, rfl⟩
  · have t1 : ((n : Int) != (m : Int)) = true := by simp; omega
    have HS := Lib.hid (show eqB n m z y = false from decide_eq_false fun h => e h.1)
    clear e h h2
    go_enter Tryz.func15, Tryz.ntmps15
    go_wp2
    go_ret
    exact ⟨ret_bool HS.out.symm, 0, rfl⟩
end Go.Proofs.YtlbdopcchoklhaaGreat
namespace Go.Proofs.YtlbdopcchoklhaaGreat.Crc

def st (r : Nat) : Nat := if r % 2 = 1 then r / 2 ^^^ 2197175160 else r / 2
def it : Nat → Nat → Nat
  | 0, r => r
  | k + 1, r => st (it k r)
def up (r b : Nat) : Nat := it 8 (r ^^^ b)
def reg (r : Nat) (z : Nat → Nat) : Nat → Nat
  | 0 => r
  | k + 1 => up (reg r z k) (z k)
def sumZ (n : Nat) (z : Nat → Nat) : Nat := reg 4294967295 z n ^^^ 4294967295

theorem xor_half (a b : Nat) : (a ^^^ b) / 2 = a / 2 ^^^ b / 2 := Nat.xor_div_two
theorem xor_odd (a b : Nat) : (a ^^^ b) % 2 = (a % 2) ^^^ (b % 2) := Nat.xor_mod_two_pow (n := 1)
theorem xor_swap (a b c d : Nat) : (a ^^^ b) ^^^ (c ^^^ d) = (a ^^^ c) ^^^ (b ^^^ d) := by
  rw [Nat.xor_assoc, Nat.xor_assoc, ← Nat.xor_assoc b c d, Nat.xor_comm b c, Nat.xor_assoc c b d]
theorem xor_none {a b : Nat} (h : a ^^^ b = 0) : a = b := by
  have : a ^^^ b ^^^ b = b := by rw [h, Nat.zero_xor]
  rwa [Nat.xor_assoc, Nat.xor_self, Nat.xor_zero] at this
theorem xor_lt {a b : Nat} (ha : a < 4294967296) (hb : b < 4294967296) : a ^^^ b < 4294967296 := Nat.xor_lt_two_pow (n := 32) ha hb
theorem xor_lt8 {a b : Nat} (ha : a < 256) (hb : b < 256) : a ^^^ b < 256 := Nat.xor_lt_two_pow (n := 8) ha hb

theorem st_xor (a b : Nat) : st (a ^^^ b) = st a ^^^ st b := by
  unfold st
  rw [xor_half, xor_odd]
  rcases Nat.mod_two_eq_zero_or_one a with ha | ha <;> rcases Nat.mod_two_eq_zero_or_one b with hb | hb <;> rw [ha, hb]
  · simp
  · simp [Nat.xor_assoc]
  · simp only [Nat.xor_zero, if_true]
    rw [if_neg (by decide), Nat.xor_assoc, Nat.xor_assoc, Nat.xor_comm 2197175160]
  · simp only [Nat.xor_self, if_true]
    rw [if_neg (by decide), xor_swap, Nat.xor_self, Nat.xor_zero]
theorem st_lt {r : Nat} (h : r < 4294967296) : st r < 4294967296 := by
  unfold st; split
  · exact xor_lt (by omega) (by omega)
  · omega
theorem st_zero {r : Nat} (h : r < 4294967296) (e : st r = 0) : r = 0 := by
  unfold st at e; split at e
  · have := xor_none e; omega
  · omega
theorem it_xor (k a b : Nat) : it k (a ^^^ b) = it k a ^^^ it k b := by
  induction k with
  | zero => rfl
  | succ k ih => show st _ = st _ ^^^ st _; rw [ih, st_xor]
theorem it_lt {r : Nat} (h : r < 4294967296) : ∀ k, it k r < 4294967296
  | 0 => h
  | k + 1 => st_lt (it_lt h k)
theorem it_zero {r : Nat} (h : r < 4294967296) : ∀ k, it k r = 0 → r = 0
  | 0, e => e
  | k + 1, e => it_zero h k (st_zero (it_lt h k) e)
theorem it_none : ∀ k, it k 0 = 0
  | 0 => rfl
  | k + 1 => by show st (it k 0) = 0; rw [it_none k]; rfl
theorem it_high (h : Nat) : ∀ k, it k (2 ^ k * h) = h := by
  intro k
  induction k generalizing h with
  | zero => show 2 ^ 0 * h = h; simp
  | succ k ih =>
    show st (it k (2 ^ (k + 1) * h)) = h
    rw [Nat.pow_succ, Nat.mul_assoc, ih]
    unfold st; rw [if_neg (by omega)]; omega
theorem it_high8 (h : Nat) : it 8 (256 * h) = h := it_high h 8
theorem xor_low {b : Nat} (h : b < 256) (x : Nat) : b ^^^ 256 * x = b + 256 * x := by
  have e1 : (b ^^^ 256 * x) / 256 = x := by
    have := Nat.xor_div_two_pow (a := b) (b := 256 * x) (n := 8)
    rw [show (2 : Nat) ^ 8 = 256 from rfl] at this
    rw [this, Nat.div_eq_of_lt h, Nat.mul_div_cancel_left x (by omega), Nat.zero_xor]
  have e2 : (b ^^^ 256 * x) % 256 = b := by
    have := Nat.xor_mod_two_pow (a := b) (b := 256 * x) (n := 8)
    rw [show (2 : Nat) ^ 8 = 256 from rfl] at this
    rw [this, Nat.mod_eq_of_lt h, Nat.mul_mod_right, Nat.xor_zero]
  omega
/-- A byte of a sum takes one look and one shift. -/
theorem up_look (r b : Nat) : up r b = it 8 ((r % 256) ^^^ b) ^^^ (r / 256) := by
  have e : r = (r % 256) ^^^ 256 * (r / 256) := by rw [xor_low (Nat.mod_lt _ (by omega))]; omega
  have e2 : r ^^^ b = ((r % 256) ^^^ b) ^^^ 256 * (r / 256) := by
    have h : r ^^^ b = (r % 256 ^^^ 256 * (r / 256)) ^^^ b := congrArg (· ^^^ b) e
    rw [h, Nat.xor_assoc, Nat.xor_comm (256 * (r / 256)), ← Nat.xor_assoc]
  unfold up
  rw [e2, it_xor, it_high8]
theorem up_xor (r s b c : Nat) : up (r ^^^ s) (b ^^^ c) = up r b ^^^ up s c := by unfold up; rw [xor_swap, it_xor]
theorem up_lt {r b : Nat} (hr : r < 4294967296) (hb : b < 256) : up r b < 4294967296 := it_lt (xor_lt hr (by omega)) 8
theorem reg_xor (r s : Nat) (z y : Nat → Nat) (n : Nat) : reg (r ^^^ s) (fun i => z i ^^^ y i) n = reg r z n ^^^ reg s y n := by
  induction n with
  | zero => rfl
  | succ n ih => show up _ _ = up _ _ ^^^ up _ _; rw [ih, up_xor]
theorem reg_lt {r : Nat} {z : Nat → Nat} (hr : r < 4294967296) : ∀ n, (∀ i, i < n → z i < 256) → reg r z n < 4294967296
  | 0, _ => hr
  | n + 1, h => up_lt (reg_lt hr n fun i hi => h i (by omega)) (h n (by omega))
theorem reg_congr {r : Nat} {z y : Nat → Nat} : ∀ n, (∀ i, i < n → z i = y i) → reg r z n = reg r y n
  | 0, _ => rfl
  | n + 1, h => by show up _ _ = up _ _; rw [reg_congr n fun i hi => h i (by omega), h n (by omega)]
theorem reg_add (r : Nat) (z : Nat → Nat) (n m : Nat) : reg r z (n + m) = reg (reg r z n) (fun i => z (n + i)) m := by
  induction m with
  | zero => rfl
  | succ m ih => show up (reg r z (n + m)) (z (n + m)) = up _ _; rw [ih]
theorem reg_none (z : Nat → Nat) : ∀ n, (∀ i, i < n → z i = 0) → reg 0 z n = 0
  | 0, _ => rfl
  | n + 1, h => by show up _ _ = 0; rw [reg_none z n fun i hi => h i (by omega), h n (by omega)]; exact it_none 8
/-- Behind noughts alone nothing has become nothing. -/
theorem reg_keeps {r : Nat} (hr : r < 4294967296) (z : Nat → Nat) : ∀ n, (∀ i, i < n → z i = 0) → reg r z n = 0 → r = 0
  | 0, _, e => e
  | n + 1, h, e => by
    have h' : ∀ i, i < n → z i = 0 := fun i hi => h i (by omega)
    refine reg_keeps hr z n h' ?_
    have e' : it 8 (reg r z n ^^^ z n) = 0 := e
    rw [h n (by omega), Nat.xor_zero] at e'
    exact it_zero (reg_lt hr n fun i hi => by rw [h' i hi]; omega) 8 e'
/-- Four bytes make nothing of a register that is their own number, and of no other one. -/
theorem up_with (r b c : Nat) : up r b ^^^ c = it 8 (r ^^^ (b ^^^ 256 * c)) := by
  unfold up; rw [← Nat.xor_assoc, it_xor 8 (r ^^^ b), it_high8]
def le4 (a b c d : Nat) : Nat := a + 256 * (b + 256 * (c + 256 * d))
theorem le4_lt {a b c d : Nat} (ha : a < 256) (hb : b < 256) (hc : c < 256) (hd : d < 256) : le4 a b c d < 4294967296 := by unfold le4; omega
theorem le4_none {a b c d : Nat} (h : le4 a b c d = 0) : a = 0 ∧ b = 0 ∧ c = 0 ∧ d = 0 := by unfold le4 at h; omega
theorem four (r a b c d : Nat) (ha : a < 256) (hb : b < 256) (hc : c < 256) : up (up (up (up r a) b) c) d = it 8 (it 8 (it 8 (it 8 (r ^^^ le4 a b c d)))) := by
  have e1 : up (up (up (up r a) b) c) d = it 8 (up (up (up r a) b) c ^^^ d) := rfl
  unfold le4
  rw [e1, up_with, xor_low hc, up_with, xor_low hb, up_with, xor_low ha]
theorem four_none {r a b c d : Nat} (hr : r < 4294967296) (ha : a < 256) (hb : b < 256) (hc : c < 256) (hd : d < 256) : up (up (up (up r a) b) c) d = 0 ↔ r = le4 a b c d := by
  rw [four r a b c d ha hb hc]
  have hx : r ^^^ le4 a b c d < 4294967296 := xor_lt hr (le4_lt ha hb hc hd)
  refine ⟨fun h => xor_none ?_, fun h => ?_⟩
  · exact it_zero hx 8 (it_zero (it_lt hx 8) 8 (it_zero (it_lt (it_lt hx 8) 8) 8 (it_zero (it_lt (it_lt (it_lt hx 8) 8) 8) 8 h)))
  · rw [h, Nat.xor_self, it_none, it_none, it_none, it_none]
theorem reg_four (r : Nat) (z : Nat → Nat) (n : Nat) : reg r z (n + 4) = up (up (up (up (reg r z n) (z n)) (z (n + 1))) (z (n + 2))) (z (n + 3)) := rfl

/-! ### sums -/
theorem sumZ_lt {n : Nat} {z : Nat → Nat} (h : ∀ i, i < n → z i < 256) : sumZ n z < 4294967296 := xor_lt (reg_lt (by omega) n h) (by omega)
theorem sumZ_congr {n : Nat} {z y : Nat → Nat} (h : ∀ i, i < n → z i = y i) : sumZ n z = sumZ n y := by unfold sumZ; rw [reg_congr n h]
theorem not_xor {r : Nat} (h : r < 4294967296) : r ^^^ 4294967295 = 4294967295 - r := by
  have : r ^^^ 4294967295 = 2 ^ 32 - 1 - r := by
    apply Nat.eq_of_testBit_eq
    intro i
    rw [Nat.testBit_xor, Nat.sub_sub, Nat.add_comm 1 r, Nat.testBit_two_pow_sub_succ (show r < 2 ^ 32 from h), show (4294967295 : Nat) = 2 ^ 32 - 1 from rfl, Nat.testBit_two_pow_sub_one]
    by_cases hi : i < 32
    · simp [hi]
    · simp [hi]; exact Nat.testBit_lt_two_pow (Nat.lt_of_lt_of_le (show r < 2 ^ 32 from h) (Nat.pow_le_pow_right (by omega) (by omega)))
  rw [this]
/-- The j-th byte of a number. -/
def byteOf (s j : Nat) : Nat := s / 256 ^ j % 256
theorem byteOf_lt (s j : Nat) : byteOf s j < 256 := Nat.mod_lt _ (by omega)
theorem byteOf_le4 {s : Nat} (h : s < 4294967296) : le4 (byteOf s 0) (byteOf s 1) (byteOf s 2) (byteOf s 3) = s := by
  unfold le4 byteOf; simp only [Nat.reducePow]; omega
theorem byteOf_of {a b c d : Nat} (ha : a < 256) (hb : b < 256) (hc : c < 256) (hd : d < 256) : byteOf (le4 a b c d) 0 = a ∧ byteOf (le4 a b c d) 1 = b ∧ byteOf (le4 a b c d) 2 = c ∧ byteOf (le4 a b c d) 3 = d := by
  unfold le4 byteOf; simp only [Nat.reducePow]; omega
/-- Sealed bytes: the sum's behind. -/
def sealZ (n : Nat) (z : Nat → Nat) (i : Nat) : Nat := if i < n then z i else byteOf (sumZ n z) (i - n)
theorem sealZ_lt {n : Nat} {z : Nat → Nat} (h : ∀ i, i < n → z i < 256) (i : Nat) : sealZ n z i < 256 := by
  unfold sealZ; split
  · exact h i (by assumption)
  · exact byteOf_lt _ _
/-- Whole: the last four are the sum of those ahead. -/
def Whole (n : Nat) (z : Nat → Nat) : Prop := 4 ≤ n ∧ ∀ j, j < 4 → z (n - 4 + j) = byteOf (sumZ (n - 4) z) j
instance (n : Nat) (z : Nat → Nat) : Decidable (Whole n z) := inferInstanceAs (Decidable (_ ∧ _))
def wholeB (n : Nat) (z : Nat → Nat) : Bool := decide (Whole n z)
theorem wholeB_congr {n : Nat} {z y : Nat → Nat} (h : ∀ i, i < n → z i = y i) : wholeB n z = wholeB n y := by
  unfold wholeB
  rw [decide_eq_decide]
  by_cases h4 : 4 ≤ n
  · constructor
    · rintro ⟨_, k⟩
      exact ⟨h4, fun j hj => by rw [← h _ (by omega), k j hj, sumZ_congr fun i hi => h i (by omega)]⟩
    · rintro ⟨_, k⟩
      exact ⟨h4, fun j hj => by rw [h _ (by omega), k j hj, sumZ_congr fun i hi => h i (by omega)]⟩
  · exact ⟨fun q => absurd q.1 h4, fun q => absurd q.1 h4⟩
/-- Whole is what leaves a certain register: that of all its bytes. -/
theorem whole_iff {n : Nat} {z : Nat → Nat} (h : ∀ i, i < n + 4 → z i < 256) : Whole (n + 4) z ↔ sumZ n z = le4 (z n) (z (n + 1)) (z (n + 2)) (z (n + 3)) := by
  have hs := sumZ_lt (n := n) (z := z) fun i hi => h i (by omega)
  unfold Whole
  rw [Nat.add_sub_cancel]
  constructor
  · rintro ⟨_, k⟩
    have := byteOf_le4 hs
    rw [← k 0 (by omega), ← k 1 (by omega), ← k 2 (by omega), ← k 3 (by omega)] at this
    exact this.symm
  · intro e
    refine ⟨by omega, fun j hj => ?_⟩
    have hb := byteOf_of (h n (by omega)) (h (n + 1) (by omega)) (h (n + 2) (by omega)) (h (n + 3) (by omega))
    rw [e]
    have : j = 0 ∨ j = 1 ∨ j = 2 ∨ j = 3 := by omega
    rcases this with rfl | rfl | rfl | rfl
    · exact hb.1.symm
    · exact hb.2.1.symm
    · exact hb.2.2.1.symm
    · exact hb.2.2.2.symm
theorem low_xor {a a' : Nat} (x x' : Nat) (ha : a < 256) (ha' : a' < 256) : (a ^^^ a') + 256 * (x ^^^ x') = (a + 256 * x) ^^^ (a' + 256 * x') := by
  have mul : 256 * (x ^^^ x') = 256 * x ^^^ 256 * x' := by
    have := Nat.shiftLeft_xor_distrib (a := x) (b := x') (i := 8)
    simp only [Nat.shiftLeft_eq, Nat.reducePow] at this
    rw [Nat.mul_comm, this, Nat.mul_comm x, Nat.mul_comm x']
  rw [← xor_low (xor_lt8 ha ha'), ← xor_low ha, ← xor_low ha', mul, xor_swap]
theorem le4_xor {a b c d a' b' c' d' : Nat} (ha : a < 256) (hb : b < 256) (hc : c < 256) (ha' : a' < 256) (hb' : b' < 256) (hc' : c' < 256) : le4 (a ^^^ a') (b ^^^ b') (c ^^^ c') (d ^^^ d') = le4 a b c d ^^^ le4 a' b' c' d' := by
  unfold le4
  rw [low_xor d d' hc hc', low_xor _ _ hb hb', low_xor _ _ ha ha']
theorem sealed_whole {n : Nat} {z : Nat → Nat} : Whole (n + 4) (sealZ n z) := by
  refine ⟨by omega, fun j hj => ?_⟩
  rw [Nat.add_sub_cancel, sumZ_congr (y := z) fun i hi => by unfold sealZ; rw [if_pos hi]]
  unfold sealZ; rw [if_neg (by omega), show n + j - n = j by omega]
/-- If up tto four bytes in a row are changed it is not whole. -/
theorem few {n at' : Nat} {z d : Nat → Nat} (hz : ∀ i, i < n → z i < 256) (hd : ∀ i, d i < 256) (hat : at' ≤ n) (h0 : ∀ i, i < at' ∨ at' + 4 ≤ i → d i = 0) :
    Whole (n + 4) (fun i => sealZ n z i ^^^ d i) ↔ d at' = 0 ∧ d (at' + 1) = 0 ∧ d (at' + 2) = 0 ∧ d (at' + 3) = 0 := by
  have hs := sealZ_lt hz
  rw [whole_iff fun i _ => xor_lt8 (hs i) (hd i)]
  have e1 : sumZ n (fun i => sealZ n z i ^^^ d i) = sumZ n (sealZ n z) ^^^ reg 0 d n := by
    unfold sumZ
    have := reg_xor 4294967295 0 (sealZ n z) d n
    rw [Nat.xor_zero] at this
    rw [this, Nat.xor_assoc, Nat.xor_comm (reg 0 d n), ← Nat.xor_assoc]
  have e2 := (whole_iff fun i _ => hs i).1 sealed_whole
  rw [e1, le4_xor (hs _) (hs _) (hs _) (hd _) (hd _) (hd _), ← e2]
  have e3 : (sumZ n (sealZ n z) ^^^ reg 0 d n = sumZ n (sealZ n z) ^^^ le4 (d n) (d (n + 1)) (d (n + 2)) (d (n + 3))) ↔ reg 0 d n = le4 (d n) (d (n + 1)) (d (n + 2)) (d (n + 3)) := by
    refine ⟨fun h => ?_, fun h => by rw [h]⟩
    have := congrArg (fun x => sumZ n (sealZ n z) ^^^ x) h
    simpa only [← Nat.xor_assoc, Nat.xor_self, Nat.zero_xor] using this
  rw [e3, ← four_none (reg_lt (by omega) n fun i _ => hd i) (hd _) (hd _) (hd _) (hd _), ← reg_four]
  constructor
  · intro h
    rw [show n + 4 = (at' + 4) + (n - at') by omega, reg_add] at h
    have h2 := reg_keeps (reg_lt (by omega) _ fun i _ => hd i) _ (n - at') (fun i hi => h0 _ (by omega)) h
    rw [reg_four, four_none (reg_lt (by omega) _ fun i _ => hd i) (hd _) (hd _) (hd _) (hd _), reg_none d at' fun i hi => h0 i (by omega)] at h2
    exact le4_none h2.symm
  · rintro ⟨a, b, c, e⟩
    refine reg_none d _ fun i _ => ?_
    by_cases q : i < at' ∨ at' + 4 ≤ i
    · exact h0 i q
    · have : i = at' ∨ i = at' + 1 ∨ i = at' + 2 ∨ i = at' + 3 := by omega
      rcases this with rfl | rfl | rfl | rfl <;> assumption
end Go.Proofs.YtlbdopcchoklhaaGreat.Crc
namespace Go.Proofs.YtlbdopcchoklhaaGreat
open Go.RowKit
set_option linter.unusedVariables false
set_option maxRecDepth 100000

def litZ (l : List Nat) (i : Nat) : Nat := l.getD i 0
def litV (l : List Nat) : Array Value := (l.map fun (x : Nat) => Value.int .u8 (x : Int)).toArray
end Go.Proofs.YtlbdopcchoklhaaGreat
namespace Go.Proofs.YtlbdopcchoklhaaGreat
open Go.RowKit
set_option linter.unusedVariables false
set_option maxRecDepth 100000

/-- A block: its numbers, its body (V: where that lies). -/
structure Bk where
  kind : Int
  vol : Int
  addr : Int
  epoch : Int
  seq : Int
  V : Value
  len : Nat
  z : Nat → Nat
def bkC (b : Bk) : Array Value := #[.int .i64 b.kind, .int .i64 b.vol, .int .i64 b.addr, .int .i64 b.epoch, .int .i64 b.seq, b.V]
def N64 (x : Int) : Prop := -9223372036854775808 ≤ x ∧ x ≤ 9223372036854775807
structure BkIs (w : World) (b : Bk) : Prop where
  kind : N64 b.kind
  vol : N64 b.vol
  addr : N64 b.addr
  epoch : N64 b.epoch
  seq : N64 b.seq
  row : RowV w b.V b.len b.z
theorem BkIs.gr {w w' : World} {b : Bk} (h : BkIs w b) (k : Ch (fun _ => False) w w') : BkIs w' b := ⟨h.kind, h.vol, h.addr, h.epoch, h.seq, h.row.gr k⟩
theorem BkIs.ch {S : Nat → Prop} {w w' : World} {b : Bk} (h : BkIs w b) (k : Ch S w w') (hS : ∀ i, i < w.heap.size → ¬ S i) : BkIs w' b := ⟨h.kind, h.vol, h.addr, h.epoch, h.seq, h.row.ch k hS⟩

/-! ### which numbers may be -/
def wordB (x : Int) : Bool := decide (0 ≤ x ∧ x ≤ 4294967295)
def wordsB (b : Bk) : Bool := wordB b.vol && (wordB b.addr && (wordB b.epoch && wordB b.seq))
def kindB (b : Bk) : Bool := decide (1 ≤ b.kind ∧ b.kind ≤ 4)
def numB (b : Bk) : Bool := kindB b && wordsB b
def mayB (b : Bk) : Bool := numB b && decide (b.len ≤ 228)
structure Num (b : Bk) : Prop where
  kind : 1 ≤ b.kind ∧ b.kind ≤ 4
  vol : 0 ≤ b.vol ∧ b.vol ≤ 4294967295
  addr : 0 ≤ b.addr ∧ b.addr ≤ 4294967295
  epoch : 0 ≤ b.epoch ∧ b.epoch ≤ 4294967295
  seq : 0 ≤ b.seq ∧ b.seq ≤ 4294967295
theorem wordB_iff {x : Int} : wordB x = true ↔ 0 ≤ x ∧ x ≤ 4294967295 := decide_eq_true_iff
theorem numB_iff {b : Bk} : numB b = true ↔ Num b := by
  unfold numB wordsB kindB
  simp only [Bool.and_eq_true, wordB_iff, decide_eq_true_iff]
  exact ⟨fun ⟨a, c, d, e, f⟩ => ⟨a, c, d, e, f⟩, fun h => ⟨h.kind, h.vol, h.addr, h.epoch, h.seq⟩⟩
theorem mayB_iff {b : Bk} : mayB b = true ↔ Num b ∧ b.len ≤ 228 := by
  unfold mayB
  rw [Bool.and_eq_true, numB_iff, decide_eq_true_iff]

/-! ### the sector -/
/-- Numbers behind the first k bytes, each as so many bytes, the lowest one first. -/
def layZ (k : Nat) (z : Nat → Nat) (wide : Nat) (F : Nat → Nat) (c : Nat) : Nat := if c < k then z c else Crc.byteOf (F ((c - k) / wide)) ((c - k) % wide)
theorem layZ_b {k m : Nat} {z : Nat → Nat} (wide : Nat) (F : Nat → Nat) (hz : Bytes k z) : Bytes m (layZ k z wide F) := fun c _ => by
  unfold layZ; split
  · exact hz c (by assumption)
  · exact Crc.byteOf_lt _ _
/-- The numbers ahead of a body: a mark and the kind; the four; how long the body is. -/
def f1 (b : Bk) : Nat → Nat := litZ [81, 77, b.kind.toNat, 0]
def f2 (b : Bk) : Nat → Nat := litZ [b.vol.toNat, b.addr.toNat, b.epoch.toNat, b.seq.toNat]
def f3 (b : Bk) : Nat → Nat := litZ [b.len, 0]
def headZ (b : Bk) : Nat → Nat := layZ 20 (layZ 4 (layZ 0 (fun _ => 0) 1 (f1 b)) 4 (f2 b)) 2 (f3 b)
theorem none_b {z : Nat → Nat} : Bytes 0 z := fun c hc => absurd hc (Nat.not_lt_zero c)
theorem headZ_b (b : Bk) (m : Nat) : Bytes m (headZ b) := layZ_b _ _ (layZ_b _ _ (layZ_b _ _ none_b))
/-- Ahead of the sum. -/
def secZ (b : Bk) (c : Nat) : Nat := if c < 24 then headZ b c else if c < 24 + b.len then b.z (c - 24) else 0
theorem secZ_b {b : Bk} (h : Bytes b.len b.z) (m : Nat) : Bytes m (secZ b) := fun c _ => by
  unfold secZ
  split
  · exact headZ_b b 24 c (by assumption)
  · split
    · exact h _ (by omega)
    · omega
def sectZ (b : Bk) : Nat → Nat := Crc.sealZ 252 (secZ b)
theorem sectZ_b {b : Bk} (h : Bytes b.len b.z) (m : Nat) : Bytes m (sectZ b) := fun c _ => Crc.sealZ_lt (secZ_b h 252) c
theorem sectZ_front {b : Bk} {c : Nat} (h : c < 252) : sectZ b c = secZ b c := by unfold sectZ Crc.sealZ; rw [if_pos h]
/-- The answer tto Seal. -/
def sealE (b : Bk) : Int := if numB b then (if b.len ≤ 228 then 0 else 2) else 1
def sealN (b : Bk) : Nat := if mayB b then 256 else 0
theorem sealE_may {b : Bk} : mayB b = decide (sealE b = 0) := by
  unfold mayB sealE
  by_cases h : numB b
  · rw [if_pos h, h, Bool.true_and]
    by_cases h2 : b.len ≤ 228
    · rw [if_pos h2, decide_eq_true h2]; rfl
    · rw [if_neg h2, decide_eq_false h2]; rfl
  · rw [if_neg h]
    have : numB b = false := by simpa using h
    rw [this]; rfl

/-! ### what is read -/
def numZ (z : Nat → Nat) (a : Nat) : Nat := Crc.le4 (z a) (z (a + 1)) (z (a + 2)) (z (a + 3))
def blkLong (z : Nat → Nat) : Nat := z 20 + 256 * z 21
def readB (V : Value) (z : Nat → Nat) : Bk := ⟨z 2, numZ z 4, numZ z 8, numZ z 12, numZ z 16, V, if blkLong z ≤ 228 then blkLong z else 228, fun c => z (24 + c)⟩
/-- Is it the sector of the block that it would be of? -/
def opensB (n : Nat) (z : Nat → Nat) : Bool := decide (n = 256) && (mayB (readB undef z) && eqB 256 256 (sectZ (readB undef z)) z)
def openQ (n : Nat) (z : Nat → Nat) : Int := if n = 256 then (if opensB n z then 0 else 7) else 1
def bk0 : Bk := ⟨0, 0, 0, 0, 0, .slice none 0 0, 0, fun _ => 0⟩
/-- Apart from where the body lies. -/
def likeB (a b : Bk) : Bool := eqB a.len b.len a.z b.z && (decide (a.kind = b.kind) && (decide (a.vol = b.vol) && (decide (a.addr = b.addr) && (decide (a.epoch = b.epoch) && decide (a.seq = b.seq)))))
def classOf (n : Nat) (z : Nat → Nat) (want : Bk) : Int :=
  if opensB n z then
    (if (readB undef z).vol = want.vol ∧ (readB undef z).addr = want.addr then
      (if (readB undef z).kind = want.kind ∧ (readB undef z).epoch = want.epoch ∧ (readB undef z).seq = want.seq then 1 else 2)
    else 3)
  else 4
end Go.Proofs.YtlbdopcchoklhaaGreat
namespace Go.Proofs.YtlbdopcchoklhaaGreat
open Go.RowKit
set_option linter.unusedVariables false
set_option maxRecDepth 100000

/-! ### areWords -/
def fourV (a b c d : Int) : Array Value := #[.int .i64 a, .int .i64 b, .int .i64 c, .int .i64 d]
def fourI (a b c d : Int) (i : Nat) : Int := [a, b, c, d].getD i 0
def wordsTo (f : Nat → Int) : Nat → Bool
  | 0 => true
  | k + 1 => wordsTo f k && wordB (f k)
theorem wordsTo_false {f : Nat → Int} {k m : Nat} (hk : k < m) (h : wordB (f k) = false) : wordsTo f m = false := by
  induction m with
  | zero => omega
  | succ m ih =>
    show (wordsTo f m && wordB (f m)) = false
    by_cases e : k = m
    · rw [← e, h, Bool.and_false]
    · rw [ih (by omega), Bool.false_and]
theorem four_cell {w : World} {g i : Nat} {a b c d : Int} {t : TypeId} (h : w.heap[g]? = some (.cells (fourV a b c d) t (0, 0))) (hi : i < 4) : w.cell? ⟨g, i, none⟩ = some (.int .i64 (fourI a b c d i)) := by
  rw [blk_cell h]
  match i, hi with
  | 0, _ => rfl
  | 1, _ => rfl
  | 2, _ => rfl
  | 3, _ => rfl
theorem words_four (b : Bk) : wordsTo (fourI b.vol b.addr b.epoch b.seq) 4 = wordsB b := by
  show ((((true && wordB b.vol) && wordB b.addr) && wordB b.epoch) && wordB b.seq) = _
  unfold wordsB
  rw [Bool.true_and, Bool.and_assoc, Bool.and_assoc]
set_option maxHeartbeats 800000 in
theorem areWords_any (g : Nat) (a b c d : Int) (w : World) (h : w.heap[g]? = some (.cells (fourV a b c d) 3 (0, 0))) : Calls Tryz.prog 105 #[.slice (some ⟨g, 0, none⟩) 4 4] w fun e w' => e = .returned (.bool (wordsTo (fourI a b c d) 4)) ∧ w = w' := by
  have HF := Lib.hid (fun i (hi : i < 4) => four_cell h hi)
  clear h
  obtain ⟨f, hf⟩ : ∃ f, f = fourI a b c d := ⟨_, rfl⟩
  rw [← hf] at HF ⊢
  clear hf
  go_enter Tryz.func105, Tryz.ntmps105
  go_wp2
  go_loop [4, 7] (fun _ i => ∃ k : Nat, k ≤ 4 ∧ i = .int .i64 k ∧ Hid (wordsTo f k = true)) (fun _ i => 4 - (intOf i).toNat)
  case atStart => exact ⟨0, Nat.zero_le _, rfl, Lib.hid rfl⟩
  case round =>
    obtain ⟨k, hk, rfl, HK⟩ := hrel
    by_cases hlt : k < 4
    · have c1 := HF.out k hlt
      obtain ⟨x, hx⟩ : ∃ x, x = f k := ⟨_, rfl⟩
      rw [← hx] at c1
      have tk : decide ((k : Int) < 4) = true := by simp; omega
      by_cases q1 : x < 0
      · have HN := Lib.hid (wordsTo_false (f := f) hlt (by rw [← hx]; exact decide_eq_false (by omega)))
        clear hx
        go_wp2
        go_ret
        exact ⟨ret_bool HN.out.symm, rfl⟩
      · by_cases q2 : 4294967295 < x
        · have HN := Lib.hid (wordsTo_false (f := f) hlt (by rw [← hx]; exact decide_eq_false (by omega)))
          clear hx
          go_wp2
          go_ret
          exact ⟨ret_bool HN.out.symm, rfl⟩
        · have HN := Lib.hid (show wordsTo f (k + 1) = true by
            show (wordsTo f k && wordB (f k)) = true
            rw [HK.out, Bool.true_and, ← hx]
            exact decide_eq_true (by omega))
          clear hx
          go_wp2
          go_round
          case rel => exact ⟨k + 1, by omega, by go_num, HN⟩
          case measure => simp [intOf]; omega
    · obtain rfl : k = 4 := by omega
      go_wp2
      go_ret
      exact ⟨ret_bool HK.out.symm, rfl⟩
/-! ### a block that is laid into a variable -/
structure BkR (w w1 : World) (H : Nat) (b : Bk) : Prop where
  al : w.alloc (.cells (bkC b) 71) = w1
  sz : w.heap.size = H
  cx : w1.heap[H]? = some (.cells (bkC b) 71 (0, 0))
  ch : Ch (fun _ => False) w w1
theorem bkR (w : World) (b : Bk) : ∃ w1 H, BkR w w1 H b := ⟨_, _, rfl, rfl, heap_alloc_new w _, (Ch.refl _ w).alloc _ _⟩
theorem BkR.at {w w1 : World} {H : Nat} {b : Bk} (h : BkR w w1 H b) (i : Nat) : w1.cell? ⟨H, i, none⟩ = (bkC b)[i]? := blk_cell h.cx
theorem load_bk {w : World} {H : Nat} {b : Bk} (h : w.heap[H]? = some (.cells (bkC b) 71 (0, 0))) : (loadVar 71 ⟨H, 0, none⟩).run Tryz.prog w = .ok (.agg (bkC b)) w :=
  run_loadVar_row w H _ _ (bkC b) (0, 0) _ h Tryz.underlying71 rfl (show _ = some 6 by kernel_rfl)
set_option maxHeartbeats 800000 in
theorem numbersMay_any (b : Bk) (w : World) : Calls Tryz.prog 66 #[.agg (bkC b)] w (Ans (.bool (numB b)) w) := by
  obtain ⟨w1, H, hR⟩ := bkR w b
  have x0 : w1.cell? ⟨H, 0, none⟩ = some (.int .i64 b.kind) := hR.at 0
  have HR := Lib.hid hR
  by_cases q1 : b.kind < 1
  · have HN := Lib.hid (show numB b = false by
      unfold numB kindB
      rw [decide_eq_false (by omega : ¬ (1 ≤ b.kind ∧ b.kind ≤ 4)), Bool.false_and])
    have t1 : decide (1 ≤ b.kind) = false := by simp; omega
    clear hR q1
    go_enter Tryz.func66, Tryz.ntmps66
    go_wp2_with ((with_reducible refine wpList_isOp (.box 71 (.tmp 0)) rfl ?_); refine wpList_boxing _ w1 rfl 71 (.tmp 0) rfl (bkC b) H rfl (by exact HR.out.sz) (by exact HR.out.al) ?_)
    go_ret
    exact ⟨ret_bool HN.out.symm, HR.out.ch⟩
  · by_cases q2 : 4 < b.kind
    · have HN := Lib.hid (show numB b = false by
        unfold numB kindB
        rw [decide_eq_false (by omega : ¬ (1 ≤ b.kind ∧ b.kind ≤ 4)), Bool.false_and])
      have t1 : decide (1 ≤ b.kind) = true := by simp; omega
      have t2 : decide (b.kind ≤ 4) = false := by simp; omega
      clear hR q1 q2
      go_enter Tryz.func66, Tryz.ntmps66
      go_wp2_with ((with_reducible refine wpList_isOp (.box 71 (.tmp 0)) rfl ?_); refine wpList_boxing _ w1 rfl 71 (.tmp 0) rfl (bkC b) H rfl (by exact HR.out.sz) (by exact HR.out.al) ?_)
      go_ret
      exact ⟨ret_bool HN.out.symm, HR.out.ch⟩
    · have HN := Lib.hid (show numB b = wordsTo (fourI b.vol b.addr b.epoch b.seq) 4 by
        unfold numB kindB
        rw [decide_eq_true (by omega : 1 ≤ b.kind ∧ b.kind ≤ 4), Bool.true_and, words_four])
      have t1 : decide (1 ≤ b.kind) = true := by simp; omega
      have t2 : decide (b.kind ≤ 4) = true := by simp; omega
      have x1 : w1.cell? ⟨H, 1, none⟩ = some (.int .i64 b.vol) := hR.at 1
      have x2 : w1.cell? ⟨H, 2, none⟩ = some (.int .i64 b.addr) := hR.at 2
      have x3 : w1.cell? ⟨H, 3, none⟩ = some (.int .i64 b.epoch) := hR.at 3
      have x4 : w1.cell? ⟨H, 4, none⟩ = some (.int .i64 b.seq) := hR.at 4
      clear hR q1 q2
      go_enter Tryz.func66, Tryz.ntmps66
      go_wp2_with (first
        | ((with_reducible refine wpList_isOp (.box 71 (.tmp 0)) rfl ?_); refine wpList_boxing _ w1 rfl 71 (.tmp 0) rfl (bkC b) H rfl (by exact HR.out.sz) (by exact HR.out.al) ?_)
        | (go_at_call 105; refine (areWords_any _ b.vol b.addr b.epoch b.seq _ (heap_alloc_new w1 _)).mono ?_; rintro e w2 ⟨rfl, rfl⟩))
      go_ret
      exact ⟨ret_bool HN.out.symm, HR.out.ch.alloc _ _⟩
end Go.Proofs.YtlbdopcchoklhaaGreat
