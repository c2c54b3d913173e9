/-
  Numbers and bytes as bytes, in plain numbers: the digits tto the base 128, lowest first; what is read of bytes; others' turn. code.turn, turnBack, digits (a function tto range over) and bytes.Clone, walked.
-/
import Derived.Test.YtkpahhioiefcbaaMb1
import Derived.Test.YtkpahhioiefcbaaMb2
import Derived.Lib.SliceRun
import Derived.Shelf.Abstract
import Derived.Deep.RegionHeld
namespace Go.Proofs.Ytkpahhioiefcbaa
namespace Cod
set_option linter.unusedVariables false
set_option maxRecDepth 100000

/-! ### the digits -/
def digs (n : Nat) : List Nat := if n < 128 then [n] else (n % 128 + 128) :: digs (n / 128)
theorem digs_small {n : Nat} (h : n < 128) : digs n = [n] := by rw [digs, if_pos h]
theorem digs_big {n : Nat} (h : 128 ≤ n) : digs n = (n % 128 + 128) :: digs (n / 128) := by rw [digs, if_neg (by omega)]
theorem digs_pos (n : Nat) : 0 < (digs n).length := by
  by_cases h : n < 128
  · rw [digs_small h]; exact Nat.one_pos
  · rw [digs_big (by omega)]; exact Nat.succ_pos _
theorem digs_b (n : Nat) : ∀ x ∈ digs n, x < 256 := by
  induction n using Nat.strongRecOn with
  | _ n ih =>
    intro x hx
    by_cases h : n < 128
    · rw [digs_small h] at hx
      have : x = n := by simpa using hx
      omega
    · rw [digs_big (by omega)] at hx
      rcases List.mem_cons.1 hx with rfl | hx
      · omega
      · exact ih (n / 128) (by omega) x hx
theorem digs_len : ∀ (k n : Nat), n < 128 ^ k → (digs n).length ≤ k ∨ k = 0
  | 0, _, _ => Or.inr rfl
  | k + 1, n, h => by
    left
    by_cases hn : n < 128
    · rw [digs_small hn]; exact Nat.succ_le_succ (Nat.zero_le _)
    · rw [digs_big (by omega), List.length_cons]
      have h1 : n / 128 < 128 ^ k := by rw [Nat.pow_succ] at h; omega
      rcases digs_len k (n / 128) h1 with h2 | rfl
      · omega
      · simp at h1; omega
theorem digs_len10 {n : Nat} (h : n < 18446744073709551616) : (digs n).length ≤ 10 := by
  rcases digs_len 10 n (Nat.lt_trans h (by decide)) with h | h
  · exact h
  · cases h
/-- The first digit, and what follows it. -/
theorem digs_next (n : Nat) : digs n = if n < 128 then [n] else (n % 128 + 128) :: digs (n / 128) := by rw [digs]

/-! ### a number out of bytes -/
def litZ (l : List Nat) (i : Nat) : Nat := l.getD i 0
theorem litZ_zero (x : Nat) (l : List Nat) : litZ (x :: l) 0 = x := rfl
theorem litZ_succ (x : Nat) (l : List Nat) (i : Nat) : litZ (x :: l) (i + 1) = litZ l i := by simp [litZ]
theorem litZ_b {l : List Nat} (h : ∀ x ∈ l, x < 256) (i : Nat) : litZ l i < 256 := by
  unfold litZ
  rw [List.getD]
  by_cases hi : i < l.length
  · rw [List.getElem?_eq_getElem hi]; exact h _ (List.getElem_mem hi)
  · rw [List.getElem?_eq_none (by omega)]; exact (by omega : (0 : Nat) < 256)
theorem litZ_app (l m : List Nat) (c : Nat) : jnZ l.length (litZ l) (litZ m) c = litZ (l ++ m) c := by
  unfold jnZ litZ
  simp only [List.getD]
  split
  · rename_i h; rw [List.getElem?_append_left h]
  · rename_i h; rw [List.getElem?_append_right (by omega)]
theorem litZ_range (k : Nat) (z : Nat → Nat) {i : Nat} (h : i < k) : litZ ((List.range k).map z) i = z i := by simp [litZ, List.getD, h]
def val (z : Nat → Nat) : Nat → Nat
  | 0 => 0
  | k + 1 => val z k + z k % 128 * 128 ^ k
theorem val_lt (z : Nat → Nat) : ∀ k, val z k < 128 ^ k
  | 0 => Nat.one_pos
  | k + 1 => by
    have h := val_lt z k
    have h1 : z k % 128 * 128 ^ k ≤ 127 * 128 ^ k := Nat.mul_le_mul_right _ (by omega)
    show val z k + z k % 128 * 128 ^ k < 128 ^ (k + 1)
    rw [Nat.pow_succ]
    omega
theorem val_cons (z : Nat → Nat) : ∀ k, val z (k + 1) = z 0 % 128 + 128 * val (fun i => z (i + 1)) k
  | 0 => by simp [val]
  | k + 1 => by
    show val z (k + 1) + z (k + 1) % 128 * 128 ^ (k + 1) = z 0 % 128 + 128 * (val (fun i => z (i + 1)) k + z (k + 1) % 128 * 128 ^ k)
    rw [val_cons z k, Nat.mul_add, Nat.pow_succ, Nat.add_assoc, Nat.add_left_cancel_iff, Nat.add_left_cancel_iff]
    rw [← Nat.mul_assoc, Nat.mul_comm _ 128]
theorem val_congr {z y : Nat → Nat} : ∀ {k : Nat}, (∀ i, i < k → z i = y i) → val z k = val y k
  | 0, _ => rfl
  | k + 1, h => by
    show val z k + z k % 128 * 128 ^ k = val y k + y k % 128 * 128 ^ k
    rw [val_congr fun i hi => h i (by omega), h k (by omega)]
theorem val_last (z : Nat → Nat) (k : Nat) : z k % 128 * 128 ^ k ≤ val z (k + 1) := Nat.le_add_left _ _
theorem digs_of : ∀ (k : Nat) (z : Nat → Nat), (∀ i, i < k → 128 ≤ z i ∧ z i < 256) → z k < 128 → (z k = 0 → k = 0) → digs (val z (k + 1)) = (List.range (k + 1)).map z
  | 0, z, _, h, _ => by
    have e : val z 1 = z 0 := by simp [val]; omega
    rw [e, digs_small h]
    rfl
  | k + 1, z, h1, h2, h3 => by
    have ih := digs_of k (fun i => z (i + 1)) (fun i hi => h1 (i + 1) (by omega)) h2 (fun e => absurd (h3 e) (by omega))
    have hp := val_last (fun i => z (i + 1)) k
    have hpos : 0 < z (k + 1) % 128 * 128 ^ k := Nat.mul_pos (by
      have : z (k + 1) ≠ 0 := fun e => by have := h3 e; omega
      omega) (Nat.pow_pos (by omega))
    have hv := val_cons z (k + 1)
    have h0 := h1 0 (by omega)
    rw [hv, digs_big (by omega)]
    rw [show (z 0 % 128 + 128 * val (fun i => z (i + 1)) (k + 1)) / 128 = val (fun i => z (i + 1)) (k + 1) by omega, ih]
    rw [show (z 0 % 128 + 128 * val (fun i => z (i + 1)) (k + 1)) % 128 + 128 = z 0 by omega]
    rw [List.range_succ_eq_map (n := k + 1), List.map_cons, List.map_map]
    rfl
theorem digs_is (n : Nat) : ∃ k, (digs n).length = k + 1 ∧ (∀ i, i < k → 128 ≤ litZ (digs n) i) ∧ litZ (digs n) k < 128 ∧ (litZ (digs n) k = 0 → k = 0) ∧ val (litZ (digs n)) (k + 1) = n := by
  induction n using Nat.strongRecOn with
  | _ n ih =>
    by_cases h : n < 128
    · rw [digs_small h]
      refine ⟨0, rfl, fun i hi => absurd hi (Nat.not_lt_zero i), h, fun _ => rfl, ?_⟩
      simp [val, litZ]
      omega
    · obtain ⟨k, e1, e2, e3, e4, e5⟩ := ih (n / 128) (by omega)
      rw [digs_big (by omega)]
      refine ⟨k + 1, by rw [List.length_cons, e1], fun i hi => ?_, by rw [litZ_succ]; exact e3, fun e => ?_, ?_⟩
      · cases i with
        | zero => rw [litZ_zero]; omega
        | succ i => rw [litZ_succ]; exact e2 i (by omega)
      · rw [litZ_succ] at e
        have hk := e4 e
        subst hk
        have e6 := e5
        simp [val] at e6
        rw [e] at e6
        omega
      · rw [val_cons, litZ_zero]
        rw [val_congr (y := litZ (digs (n / 128))) fun i _ => litZ_succ _ _ i, e5]
        omega

/-! ### what is read -/
/-- Of n bytes z: k digits are read (e = 0), or the bytes end ahead of a last one (6), or their form is wrong (7). -/
def Rd (n : Nat) (z : Nat → Nat) (k e : Nat) : Prop :=
  (e = 0 ∧ 0 < k ∧ k ≤ n ∧ k ≤ 10 ∧ (∀ i, i + 1 < k → 128 ≤ z i) ∧ z (k - 1) < 128 ∧ (k = 10 → z 9 ≤ 1) ∧ (z (k - 1) = 0 → k = 1)) ∨
  (e = 6 ∧ k = 0 ∧ n ≤ 9 ∧ ∀ i, i < n → 128 ≤ z i) ∨
  (e = 7 ∧ k = 0 ∧ ((9 < n ∧ (∀ i, i < 9 → 128 ≤ z i) ∧ 1 < z 9) ∨ ∃ j, 0 < j ∧ j < n ∧ j ≤ 9 ∧ (∀ i, i < j → 128 ≤ z i) ∧ z j = 0))
theorem Rd.congr {n : Nat} {z y : Nat → Nat} {k e : Nat} (h : Rd n z k e) (hz : ∀ i, i < n → z i = y i) : Rd n y k e := by
  rcases h with ⟨h1, h2, h3, h4, h5, h6, h7, h8⟩ | ⟨h1, h2, h3, h4⟩ | ⟨h1, h2, ⟨h3, h4, h5⟩ | ⟨j, h3, h4, h5, h6, h7⟩⟩
  · refine Or.inl ⟨h1, h2, h3, h4, fun i hi => by rw [← hz i (by omega)]; exact h5 i hi, by rw [← hz _ (by omega)]; exact h6, fun hk => by rw [← hz _ (by omega)]; exact h7 hk, fun e => h8 (by rw [hz _ (by omega)]; exact e)⟩
  · exact Or.inr (Or.inl ⟨h1, h2, h3, fun i hi => by rw [← hz i hi]; exact h4 i hi⟩)
  · exact Or.inr (Or.inr ⟨h1, h2, Or.inl ⟨h3, fun i hi => by rw [← hz i (by omega)]; exact h4 i hi, by rw [← hz _ (by omega)]; exact h5⟩⟩)
  · exact Or.inr (Or.inr ⟨h1, h2, Or.inr ⟨j, h3, h4, h5, fun i hi => by rw [← hz i (by omega)]; exact h6 i hi, by rw [← hz _ (by omega)]; exact h7⟩⟩)
theorem rd_ok {n m : Nat} {z : Nat → Nat} (h1 : m < n) (h2 : m ≤ 9) (h3 : ∀ i, i < m → 128 ≤ z i) (h4 : z m < 128) (h5 : m = 9 → z 9 ≤ 1) (h6 : z m = 0 → m = 0) : Rd n z (m + 1) 0 :=
  Or.inl ⟨rfl, by omega, by omega, by omega, fun i hi => h3 i (by omega), by simpa using h4, fun h => h5 (by omega), fun h => by have := h6 (by simpa using h); omega⟩
theorem rd_short {n : Nat} {z : Nat → Nat} (h1 : n ≤ 9) (h2 : ∀ i, i < n → 128 ≤ z i) : Rd n z 0 6 := Or.inr (Or.inl ⟨rfl, rfl, h1, h2⟩)
theorem rd_long {n : Nat} {z : Nat → Nat} (h1 : 9 < n) (h2 : ∀ i, i < 9 → 128 ≤ z i) (h3 : 1 < z 9) : Rd n z 0 7 := Or.inr (Or.inr ⟨rfl, rfl, Or.inl ⟨h1, h2, h3⟩⟩)
theorem rd_idle {n j : Nat} {z : Nat → Nat} (h1 : 0 < j) (h2 : j < n) (h3 : j ≤ 9) (h4 : ∀ i, i < j → 128 ≤ z i) (h5 : z j = 0) : Rd n z 0 7 := Or.inr (Or.inr ⟨rfl, rfl, Or.inr ⟨j, h1, h2, h3, h4, h5⟩⟩)
theorem rd_ok_short {n : Nat} {z : Nat → Nat} {k : Nat} (h : Rd n z k 0) : 0 < k ∧ k ≤ n ∧ k ≤ 10 ∧ (∀ i, i + 1 < k → 128 ≤ z i) ∧ z (k - 1) < 128 ∧ (k = 10 → z 9 ≤ 1) ∧ (z (k - 1) = 0 → k = 1) := by
  rcases h with h | ⟨h, _⟩ | ⟨h, _⟩
  · exact h.2
  · cases h
  · cases h
theorem rd_one {n : Nat} {z : Nat → Nat} {k e k' e' : Nat} (h : Rd n z k e) (h' : Rd n z k' e') : k = k' ∧ e = e' := by
  have lo : ∀ {a b : Nat}, (a < n ∨ a < 10) → z a < 128 → (∀ i, i < b → 128 ≤ z i) → b ≤ a := fun {a b} _ h1 h2 => by
    rcases Nat.lt_or_ge a b with q | q
    · have := h2 a q; omega
    · exact q
  rcases h with ⟨h1, h2, h3, h4, h5, h6, h7, h8⟩ | ⟨h1, h2, h3, h4⟩ | ⟨h1, h2, ⟨h3, h4, h5⟩ | ⟨j, h3, h4, h5, h6, h7⟩⟩ <;>
    rcases h' with ⟨g1, g2, g3, g4, g5, g6, g7, g8⟩ | ⟨g1, g2, g3, g4⟩ | ⟨g1, g2, ⟨g3, g4, g5⟩ | ⟨j', g3, g4, g5, g6, g7⟩⟩
  · rcases Nat.lt_trichotomy k k' with q | q | q
    · have := g5 (k - 1) (by omega); omega
    · exact ⟨q, by omega⟩
    · have := h5 (k' - 1) (by omega); omega
  · have := g4 (k - 1) (by omega); omega
  · rcases Nat.lt_or_ge (k - 1) 9 with q | q
    · have := g4 (k - 1) q; omega
    · have := h7 (by omega); omega
  · rcases Nat.lt_trichotomy (k - 1) j' with q | q | q
    · have := g6 (k - 1) q; omega
    · rw [← q] at g7; have := h8 g7; omega
    · have := h5 j' (by omega); omega
  · have := h4 (k' - 1) (by omega); omega
  · omega
  · omega
  · have := h4 j' g4; omega
  · rcases Nat.lt_or_ge (k' - 1) 9 with q | q
    · have := h4 (k' - 1) q; omega
    · have := g7 (by omega); omega
  · omega
  · omega
  · omega
  · rcases Nat.lt_trichotomy (k' - 1) j with q | q | q
    · have := h6 (k' - 1) q; omega
    · rw [← q] at h7; have := g8 h7; omega
    · have := g5 j (by omega); omega
  · have := g4 j h4; omega
  · omega
  · omega
theorem rd_some (n : Nat) (z : Nat → Nat) : ∃ k e, Rd n z k e := by
  have step : ∀ m, m ≤ 10 → (m ≤ n ∧ ∀ i, i < m → 128 ≤ z i) ∨ ∃ k e, Rd n z k e := by
    intro m
    induction m with
    | zero => exact fun _ => Or.inl ⟨Nat.zero_le _, fun i hi => absurd hi (Nat.not_lt_zero i)⟩
    | succ m ih =>
      intro hm
      rcases ih (by omega) with ⟨h1, h2⟩ | h
      · by_cases hn : m < n
        · by_cases hz : z m < 128
          · right
            by_cases h9 : m = 9 ∧ 1 < z 9
            · exact ⟨0, 7, rd_long (by omega) (fun i hi => h2 i (by omega)) h9.2⟩
            · by_cases h0 : z m = 0 ∧ 0 < m
              · exact ⟨0, 7, rd_idle h0.2 hn (by omega) h2 h0.1⟩
              · exact ⟨m + 1, 0, rd_ok hn (by omega) h2 hz (fun e => by
                  rcases Nat.lt_or_ge 1 (z 9) with q | q
                  · exact absurd ⟨e, q⟩ h9
                  · exact q) (fun e => by
                  rcases Nat.eq_zero_or_pos m with q | q
                  · exact q
                  · exact absurd ⟨e, q⟩ h0)⟩
          · left
            refine ⟨hn, fun i hi => ?_⟩
            by_cases e : i = m
            · subst e; omega
            · exact h2 i (by omega)
        · right
          exact ⟨0, 6, rd_short (by omega) (fun i hi => h2 i (by omega))⟩
      · exact Or.inr h
  rcases step 10 (Nat.le_refl _) with ⟨h1, h2⟩ | h
  · exact ⟨0, 7, rd_long (by omega) (fun i hi => h2 i (by omega)) (by have := h2 9 (by omega); omega)⟩
  · exact h
theorem rd_e {n : Nat} {z : Nat → Nat} {k e : Nat} (h : Rd n z k e) : e = 0 ∨ (e = 6 ∧ k = 0) ∨ (e = 7 ∧ k = 0) := by
  rcases h with h | h | h
  · exact Or.inl h.1
  · exact Or.inr (Or.inl ⟨h.1, h.2.1⟩)
  · exact Or.inr (Or.inr ⟨h.1, h.2.1⟩)
theorem val_top {n : Nat} {z : Nat → Nat} {k : Nat} (h : Rd n z k 0) : val z k < 18446744073709551616 := by
  obtain ⟨h1, h2, h3, h4, h5, h6, h7⟩ := rd_ok_short h
  rcases Nat.lt_or_ge k 10 with q | q
  · exact Nat.lt_of_lt_of_le (val_lt z k) (Nat.le_trans (Nat.pow_le_pow_right (by omega) (show k ≤ 9 by omega)) (by decide))
  · obtain rfl : k = 10 := by omega
    have h8 := h6 rfl
    have h9 := val_lt z 9
    show val z 9 + z 9 % 128 * 128 ^ 9 < _
    have e : (128 : Nat) ^ 9 = 9223372036854775808 := by decide
    rw [e] at h9 ⊢
    have : z 9 % 128 ≤ 1 := by omega
    have := Nat.mul_le_mul_right 9223372036854775808 this
    omega
theorem rd_digs {m n : Nat} {z : Nat → Nat} (h : m < 18446744073709551616) (hz : ∀ i, i < (digs m).length → z i = litZ (digs m) i) (hn : (digs m).length ≤ n) : Rd n z (digs m).length 0 ∧ val z (digs m).length = m := by
  obtain ⟨k, e1, e2, e3, e4, e5⟩ := digs_is m
  have hl := digs_len10 h
  rw [e1] at hz hn hl ⊢
  have hv : val z (k + 1) = m := by rw [val_congr (y := litZ (digs m)) hz]; exact e5
  refine ⟨rd_ok (by omega) (by omega) (fun i hi => by rw [hz i (by omega)]; exact e2 i hi) (by rw [hz k (by omega)]; exact e3) (fun e => ?_) (fun e => e4 (by rw [← hz k (by omega)]; exact e)), hv⟩
  subst e
  have h1 := val_last z 9
  rw [hv, hz 9 (by omega)] at h1
  rw [hz 9 (by omega)]
  have e : (128 : Nat) ^ 9 = 9223372036854775808 := by decide
  rw [e] at h1
  rw [Nat.mod_eq_of_lt e3] at h1
  rcases Nat.lt_or_ge 1 (litZ (digs m) 9) with q | q
  · have := Nat.mul_le_mul_right 9223372036854775808 q
    omega
  · exact q
theorem digs_val {n : Nat} {z : Nat → Nat} {k : Nat} (h : Rd n z k 0) (hb : ∀ i, i < n → z i < 256) : digs (val z k) = (List.range k).map z := by
  obtain ⟨h1, h2, h3, h4, h5, h6, h7⟩ := rd_ok_short h
  obtain ⟨j, rfl⟩ : ∃ j, k = j + 1 := ⟨k - 1, by omega⟩
  exact digs_of j z (fun i hi => ⟨h4 i (by omega), hb i (by omega)⟩ ) (by simpa using h5) (fun e => by have := h7 (by simpa using e); omega)

/-! ### the program's way: a digit is held against what there is room for -/
def badB (top s k d : Nat) (l : Bool) : Bool := (decide (k = 9) && !l) || (l && decide (d = 0) && decide (0 < k)) || decide ((top - s) / 128 ^ k < d)
theorem room {top k : Nat} (h : 9223372036854775807 ≤ top) (hk : k ≤ 8) {s d : Nat} (hs : s < 128 ^ k) (hd : d < 128) : ¬ (top - s) / 128 ^ k < d := by
  intro h1
  have h2 : (top - s) / 128 ^ k < 127 := by omega
  rw [Nat.div_lt_iff_lt_mul (Nat.pow_pos (by omega))] at h2
  have h3 : 128 ^ k ≤ 128 ^ 8 := Nat.pow_le_pow_right (by omega) hk
  have e : (128 : Nat) ^ 8 = 72057594037927936 := by decide
  rw [e] at h3
  omega
theorem bad_is {top n m k e : Nat} {z : Nat → Nat} (ht : 9223372036854775807 ≤ top) (ht2 : top < 18446744073709551616) (h : Rd n z k e) (hm : m < n) (hm9 : m ≤ 9) (hz : ∀ i, i < m → 128 ≤ z i) (hb : badB top (val z m) m (z m % 128) (decide (z m < 128)) = true) : e = 7 ∨ (e = 0 ∧ top < val z k) := by
  have e9 : (128 : Nat) ^ 9 = 9223372036854775808 := by decide
  unfold badB at hb
  simp only [Bool.or_eq_true, Bool.and_eq_true, decide_eq_true_eq, Bool.not_eq_true', decide_eq_false_iff_not] at hb
  rcases hb with (⟨rfl, h1⟩ | ⟨⟨h1, h2⟩, h3⟩) | h1
  · exact Or.inl (rd_one h (rd_long hm hz (by omega))).2
  · exact Or.inl (rd_one h (rd_idle h3 hm hm9 hz (by omega))).2
  · rcases Nat.lt_or_ge m 9 with q | q
    · exact absurd h1 (room ht (by omega) (val_lt z m) (Nat.mod_lt _ (by omega)))
    · obtain rfl : m = 9 := by omega
      by_cases h9 : 1 < z 9
      · exact Or.inl (rd_one h (rd_long hm hz h9)).2
      · have h10 : z 9 = 1 := by
          rcases Nat.lt_or_ge (z 9) 1 with q | q
          · have : z 9 % 128 = 0 := by omega
            rw [this] at h1
            omega
          · omega
        have hr := rd_ok (z := z) (n := n) (m := 9) hm (by omega) hz (by omega) (fun _ => by omega) (fun e => by omega)
        obtain ⟨rfl, rfl⟩ := rd_one h hr
        refine Or.inr ⟨rfl, ?_⟩
        have hv := val_lt z 9
        show top < val z 9 + z 9 % 128 * 128 ^ 9
        rw [h10] at h1 ⊢
        rw [e9] at h1 hv ⊢
        omega
theorem good_is {top n m k e : Nat} {z : Nat → Nat} (ht2 : top < 18446744073709551616) (h : Rd n z k e) (hm : m < n) (hm9 : m ≤ 9) (hz : ∀ i, i < m → 128 ≤ z i) (hs : val z m ≤ top) (hl : z m < 128) (hb : badB top (val z m) m (z m % 128) (decide (z m < 128)) = false) : e = 0 ∧ k = m + 1 ∧ val z k ≤ top := by
  unfold badB at hb
  simp only [Bool.or_eq_false_iff, Bool.and_eq_false_iff, decide_eq_false_iff_not, Bool.not_eq_false', decide_eq_true_eq] at hb
  obtain ⟨⟨h1, h2⟩, h3⟩ := hb
  rw [Nat.mod_eq_of_lt hl] at h2 h3
  have hmul : z m * 128 ^ m ≤ top - val z m := by
    rw [Nat.not_lt, Nat.le_div_iff_mul_le (Nat.pow_pos (by omega))] at h3
    exact h3
  have hr := rd_ok hm hm9 hz hl (fun e => by
    subst e
    rcases Nat.lt_or_ge 1 (z 9) with q | q
    · have e9 : (128 : Nat) ^ 9 = 9223372036854775808 := by decide
      rw [e9] at hmul
      have := Nat.mul_le_mul_right 9223372036854775808 q
      omega
    · exact q) (fun e => by
    rcases h2 with (h2 | h2) | h2
    · exact absurd hl h2
    · exact absurd e h2
    · omega)
  obtain ⟨rfl, rfl⟩ := rd_one h hr
  refine ⟨rfl, rfl, ?_⟩
  show val z m + z m % 128 * 128 ^ m ≤ top
  rw [Nat.mod_eq_of_lt hl]
  omega
theorem on_is {top m : Nat} {s d : Nat} (hs : s ≤ top) (hm9 : m ≤ 9) (hb : badB top s m d false = false) : m + 1 ≤ 9 ∧ s + d * 128 ^ m ≤ top := by
  unfold badB at hb
  simp only [Bool.or_eq_false_iff, Bool.and_eq_false_iff, decide_eq_false_iff_not, Bool.not_eq_false'] at hb
  obtain ⟨⟨h1, h2⟩, h3⟩ := hb
  rw [Nat.not_lt, Nat.le_div_iff_mul_le (Nat.pow_pos (by omega))] at h3
  refine ⟨?_, by omega⟩
  rcases h1 with h1 | h1
  · omega
  · cases h1
/-- The number, how many digits it has, what is wrong: of what is not above top. -/
def resV (top : Nat) (z : Nat → Nat) (k e : Nat) : Nat := if e = 0 then if val z k ≤ top then val z k else 0 else 0
def resK (top : Nat) (z : Nat → Nat) (k e : Nat) : Nat := if e = 0 then if val z k ≤ top then k else 0 else 0
def resE (top : Nat) (z : Nat → Nat) (k e : Nat) : Nat := if e = 0 then if val z k ≤ top then 0 else 7 else e
theorem res_ok {top k e : Nat} {z : Nat → Nat} (h : e = 0) (h2 : val z k ≤ top) : resV top z k e = val z k ∧ resK top z k e = k ∧ resE top z k e = 0 := by
  unfold resV resK resE; rw [if_pos h, if_pos h, if_pos h, if_pos h2, if_pos h2, if_pos h2]; exact ⟨rfl, rfl, rfl⟩
theorem res_bad {top k e : Nat} {z : Nat → Nat} (h : e = 7 ∨ (e = 0 ∧ top < val z k)) : resV top z k e = 0 ∧ resK top z k e = 0 ∧ resE top z k e = 7 := by
  unfold resV resK resE
  rcases h with rfl | ⟨rfl, h⟩
  · exact ⟨rfl, rfl, rfl⟩
  · rw [if_pos rfl, if_pos rfl, if_pos rfl, if_neg (by omega), if_neg (by omega), if_neg (by omega)]; exact ⟨rfl, rfl, rfl⟩
theorem res_short {top k : Nat} {z : Nat → Nat} : resV top z k 6 = 0 ∧ resK top z k 6 = 0 ∧ resE top z k 6 = 6 := ⟨rfl, rfl, rfl⟩

/-! ### others' turn -/
def turnZ (n : Int) : Nat := if n < 0 then (2 * (-(n + 1)) + 1).toNat else (2 * n).toNat
def backZ (v : Nat) : Int := if v % 2 = 1 then -((v / 2 : Nat) : Int) - 1 else ((v / 2 : Nat) : Int)
theorem back_turn (n : Int) : backZ (turnZ n) = n := by unfold backZ turnZ; split <;> split <;> omega
theorem turn_back (v : Nat) : turnZ (backZ v) = v := by unfold backZ turnZ; split <;> split <;> omega
theorem turn_lt {n : Int} (h : -9223372036854775808 ≤ n ∧ n ≤ 9223372036854775807) : turnZ n < 18446744073709551616 := by unfold turnZ; split <;> omega
theorem back_in {v : Nat} (h : v < 18446744073709551616) : -9223372036854775808 ≤ backZ v ∧ backZ v ≤ 9223372036854775807 := by unfold backZ; split <;> omega

/-! ### the document's way: by halves -/
theorem half_next (z : Nat → Nat) (k : Nat) : val z (k + 2) / 2 = val z (k + 1) / 2 + z (k + 1) % 128 * (64 * 128 ^ k) := by
  show (val z (k + 1) + z (k + 1) % 128 * 128 ^ (k + 1)) / 2 = _
  have e : z (k + 1) % 128 * 128 ^ (k + 1) = 2 * (z (k + 1) % 128 * (64 * 128 ^ k)) := by
    rw [Nat.pow_succ, Nat.mul_comm (128 ^ k) 128, show (128 : Nat) = 2 * 64 from rfl, Nat.mul_assoc 2 64, ← Nat.mul_assoc, Nat.mul_comm _ 2, Nat.mul_assoc]
  rw [e]; omega
theorem odd_is (z : Nat → Nat) : ∀ k, val z (k + 1) % 2 = z 0 % 2
  | 0 => by simp [val]
  | k + 1 => by
    have ih := odd_is z k
    show (val z (k + 1) + z (k + 1) % 128 * 128 ^ (k + 1)) % 2 = _
    have e : z (k + 1) % 128 * 128 ^ (k + 1) = 2 * (z (k + 1) % 128 * (64 * 128 ^ k)) := by
      rw [Nat.pow_succ, Nat.mul_comm (128 ^ k) 128, show (128 : Nat) = 2 * 64 from rfl, Nat.mul_assoc 2 64, ← Nat.mul_assoc, Nat.mul_comm _ 2, Nat.mul_assoc]
    rw [e]; omega
theorem half_zero (z : Nat → Nat) : val z 1 / 2 = z 0 % 128 / 2 := by simp [val]
#print axioms digs_val
#print axioms rd_digs
#print axioms good_is
#print axioms bad_is
end Cod
end Go.Proofs.Ytkpahhioiefcbaa
namespace Go.Proofs.Ytkpahhioiefcbaa
open Go.RowKit Cod
set_option linter.unusedVariables false
set_option maxRecDepth 100000

attribute [local go_sem] Oper.semAt_some wide_fn wide_depth

/-! ### others' turn -/
theorem turn_neg {n : Int} (h : n < 0) : (turnZ n : Int) = 2 * (-(n + 1)) + 1 := by unfold turnZ; rw [if_pos h]; omega
theorem turn_pos {n : Int} (h : ¬ n < 0) : (turnZ n : Int) = 2 * n := by unfold turnZ; rw [if_neg h]; omega
theorem back_odd {v : Nat} (h : v % 2 = 1) : backZ v = -((v : Int) / 2) - 1 := by unfold backZ; rw [if_pos h]; omega
theorem back_even {v : Nat} (h : ¬ v % 2 = 1) : backZ v = (v : Int) / 2 := by unfold backZ; rw [if_neg h]; omega
/-! ### digits, as they are laid -/
theorem digits_any (n : Nat) (w : World) : Calls Try.prog 60 #[.int .u64 (n : Int)] w fun e w' => e = .returned (.func (.func 71) #[] #[.pointer (some ⟨w.heap.size, 0, none⟩)]) ∧ w.alloc (.cells #[.int .u64 (n : Int)] 74) = w' := by
  go_enter Try.func60, Try.ntmps60
  go_wp2
  go_ret
  exact ⟨rfl, rfl⟩
#print axioms digits_any
abbrev Byte := { x : Nat // x < 256 }
def raw (l : List Byte) : List Nat := l.map (·.1)
theorem raw_snoc (l : List Byte) (x : Byte) : raw (l ++ [x]) = raw l ++ [x.1] := by simp [raw]
set_option maxHeartbeats 1000000 in
set_option maxRecDepth 100000 in
theorem digs1_in (m : Nat) (hm : 1 ≤ m) (l Bs n N : Nat) (hn : n < 18446744073709551616) (hN : N = (digs n).length) (J Jx : List Byte → World → Prop)
    (hY : ∀ pre x W, J pre W → pre.length < N → YieldAt Fence.wide (m - 1) Try.prog l #[.int .u8 (x.1 : Int)] W fun e W' =>
      (e = .returned (.bool true) ∧ J (pre ++ [x]) W' ∧ True) ∨ (e = .returned (.bool false) ∧ Jx (pre ++ [x]) W'))
    (W : World) (hB : W.cell? ⟨Bs, 0, none⟩ = some (.int .u64 (n : Int))) (h0 : J [] W) :
    CallsIn Fence.wide m Try.prog 71 #[.func (.yield l) #[] #[], .pointer (some ⟨Bs, 0, none⟩)] W fun e W' => (∃ v, e = .returned v) ∧
      ((∃ ys, raw ys = digs n ∧ J ys W') ∨ (∃ pre, True ∧ Jx pre W')) := by
  have HN := Lib.hid hN
  have HL := Lib.hid hn
  clear hN
  refine callsIn_of_wp Try.func71 rfl trivial ?_ rfl
  simp only [Try.ntmps71, List.size_toArray, List.length_cons, List.length_nil, Nat.reduceAdd, Nat.reduceSub, Array.replicate_succ, Array.replicate_zero, List.push_toArray, List.append_toArray, List.nil_append, List.cons_append]
  gi_wp2
  gi_loopw [3] (fun p wr => ∃ (pre : List Byte) (r : Nat), p = .int .u64 (r : Int) ∧ r ≤ n ∧ Hid (digs n = raw pre ++ digs r) ∧ J pre wr) (fun p _ => (intOf p).toNat)
  case atStart => exact ⟨[], n, rfl, Nat.le_refl _, rfl, h0⟩
  case round =>
    obtain ⟨pre, r, rfl, hrn, HD, hJ⟩ := hrel
    by_cases hlt : r < 128
    · have hlen : pre.length < N := by
        rw [HN.out, HD.out, digs_small hlt]; simp [raw]
      obtain ⟨fn, tmps, assign, body, hy, hR⟩ := hY pre ⟨r, by omega⟩ wr hJ hlen
      have HF := Lib.hid (show raw (pre ++ [⟨r, by omega⟩]) = digs n by rw [raw_snoc, HD.out, digs_small hlt])
      dsimp only at hy
      clear hlen
      gi_wp2
      refine hR.mono ?_
      rintro e W3 (⟨rfl, hJ3, _⟩ | ⟨rfl, hJx3⟩)
      · gi_wp2
        go_end0
        exact ⟨⟨_, rfl⟩, .inl ⟨_, HF.out, hJ3⟩⟩
      · gi_wp2
        go_end0
        exact ⟨⟨_, rfl⟩, .inr ⟨_, trivial, hJx3⟩⟩
    · have hlen : pre.length < N := by
        rw [HN.out, HD.out, digs_big (by omega)]; simp [raw]
      obtain ⟨fn, tmps, assign, body, hy, hR⟩ := hY pre ⟨r % 128 + 128, by omega⟩ wr hJ hlen
      have HF := Lib.hid (show digs n = raw (pre ++ [⟨r % 128 + 128, by omega⟩]) ++ digs (r / 128) by rw [raw_snoc, HD.out, digs_big (by omega), List.append_assoc]; rfl)
      have hy' : (Instr.yield l #[.int .u8 ((r : Int) % 128 + 128)]).run Try.prog wr = .ok (.round l fn tmps assign body) wr := by simpa using hy
      clear hlen hy
      gi_wp2
      refine hR.mono ?_
      rintro e W3 (⟨rfl, hJ3, _⟩ | ⟨rfl, hJx3⟩)
      · gi_wp2
        go_roundw
        case rel => exact ⟨_, r / 128, by simp, by omega, HF, hJ3⟩
        case measure => simp [intOf]; omega
      · gi_wp2
        refine bodyPost_ret (results_none rfl _ _ _) rfl ?_
        exact ⟨⟨_, rfl⟩, .inr ⟨_, trivial, hJx3⟩⟩
#print axioms digs1_in
theorem digs_stops (m : Nat) (hm : 1 ≤ m) (Bs n : Nat) (hn : n < 18446744073709551616) (w : World) (hBs : Bs < w.heap.size) (hc : w.cell? ⟨Bs, 0, none⟩ = some (.int .u64 (n : Int))) :
    SeqStopsK Fence.wide m Try.prog 71 #[.pointer (some ⟨Bs, 0, none⟩)] (fun x : Byte => #[Value.int .u8 (x.1 : Int)]) (fun _ _ => True) (fun ys => raw ys = digs n) (fun _ => True) (digs n).length w :=
  fun l J Jx W hW _ _ hY h0 => digs1_in m hm l Bs n _ hn rfl J Jx hY W ((hW.cell (p := ⟨Bs, 0, none⟩) hBs).trans hc) h0
#print axioms digs_stops
end Go.Proofs.Ytkpahhioiefcbaa
