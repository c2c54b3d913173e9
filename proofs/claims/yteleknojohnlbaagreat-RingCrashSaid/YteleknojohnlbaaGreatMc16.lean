/-
  Regions that draw their order, within a round of a range over a function: what the plain calculus shows of every order serves there, too. Numbers and bytes as bytes, in plain numbers: the digits to the base 128, lowest first; what is read of bytes; others' turn. code.turn, turnBack, digits (a function to range over) and bytes.Clone, walked.
-/
import Derived.Test.YteleknojohnlbaaGreatMc1
import Derived.RangeFuncNested
import Derived.RangeFuncBox
import Derived.RangeFuncLeaves
import Derived.RangeFuncCalls
import Derived.OwnWalkIn
import Derived.TacticsInMore
import Derived.LoopNIn
import Derived.LoopIn
import Derived.StillTail
import Derived.StillTactics
import Derived.OrdersHeld
import Derived.Test.YteleknojohnlbaaGreatMc3
import Derived.Lib.SliceRun
import Derived.Shelf.Abstract
import Derived.Deep.RegionHeld
namespace Go.Proofs.YteleknojohnlbaaGreat
open Go.RowKit
set_option linter.unusedVariables false
set_option maxRecDepth 100000
section
variable {P : Program} {ops : Array Oper} {Q : Exit → Act → World → Prop}
theorem rowsIn_of {n : Nat} {row : String} {args : Array Value} {w : World} {R : Value → World → Prop} (h : Rows P row args w R) : RowsIn Fence.wide n P row args w R :=
  fun c cs _ => let ⟨v, w', r, s⟩ := h c cs; ⟨v, w', r, stepsIn_wide.2 s⟩
theorem operIn_of {o : Oper} {a : Act} {w : World} {K : Act → World → Prop} {l n : Nat} (hnd : ∀ c, o.op ≠ .defer c) (h : o.wp P a w K Q) : o.wpIn (Fence.wide.inRound l) n P a w K Q := by
  refine ⟨fun _ _ => trivial, ?_⟩
  rw [Fence.inRound_round, Oper.semAt_some _ _ _ hnd]
  unfold Oper.wp at h
  generalize (execOp a.eval o).run P w = r at *
  have hd : (Fence.wide.inRound l).depth.isSome = true → 1 ≤ n := fun e => by simp [Fence.wide, Fence.inRound] at e
  cases r with
  | ok x w' =>
    cases x <;> simp only [Oper.upon] at h <;> simp only [Oper.uponIn] <;> first
      | exact h
      | exact ⟨hd, (callsIn_wide.2 h).mono (fun e w'' he => by cases e <;> exact he)⟩
      | exact ⟨hd, rowsIn_of h⟩
      | exact h.elim
  | halt x w' => cases x <;> simp only [Oper.upon] at h <;> simp only [Oper.uponIn] <;> first | exact h | exact h.elim
def noDefer (ops : Array Oper) : Bool := ops.all fun o => match o.op with | .defer _ => false | _ => true
theorem noDefer_spec (h : noDefer ops = true) {j : Nat} {o : Oper} (ho : ops[j]? = some o) (c : Call) : o.op ≠ .defer c := fun e => by
  have h1 := Array.all_eq_true_iff_forall_mem.1 h o (Array.mem_of_getElem? ho)
  rw [e] at h1
  cases h1
theorem opsIn_of {l n : Nat} (hnd : noDefer ops = true) (hq : ¬ LetsOut Q) : ∀ (L : List Nat) (a : Act) (w : World), wpOps P ops Q L a w → wpOpsIn (Fence.wide.inRound l) n P ops Q L a w
  | [], _, _, h => h
  | i :: rest, a, w, h => by
    simp only [wpOps] at h
    simp only [wpOpsIn]
    cases ho : ops[i]? with
    | none => simp only [ho] at h; exact opsIn_of hnd hq rest _ _ h
    | some o =>
      simp only [ho] at h ⊢
      split
      · rename_i hw
        simp only [hw, if_true] at h
        rcases h with h | ⟨_, h⟩
        · exact operIn_of (noDefer_spec hnd ho) (Oper.wp_mono (fun a w => opsIn_of hnd hq rest a w) h)
        · exact absurd h hq
      · rename_i hw
        simp only [hw] at h
        exact ⟨fun _ _ => trivial, opsIn_of hnd hq rest _ _ h⟩
theorem wpIn_round_any {id l n : Nat} {a : Act} {w : World} (hm : P.follows .mixedOrders = true) (hnd : noDefer ops = true) (hq : ¬ LetsOut Q)
    (h : wpAny P .any ops Q ops.size (Array.replicate ops.size false) a { w with drawn := w.drawn + 1 }) : (Code.region id ops true).wpIn (Fence.wide.inRound l) n P Q a w :=
  wpIn_region_draw fun t => by
    simp only [Region.schedule, hm, Bool.true_or, if_true]
    exact opsIn_of hnd hq _ _ _ (wpAny_sound ops.size t _ a _ h)
theorem wpIn_round_held {id l n : Nat} {a : Act} {w : World} (S : World → Prop) (hm : P.follows .mixedOrders = true) (hnd : noDefer ops = true) (hq : ¬ LetsOut Q)
    (h : wpAnyH P .any ops Q S ops.size (Array.replicate ops.size false) a { w with drawn := w.drawn + 1 }) : (Code.region id ops true).wpIn (Fence.wide.inRound l) n P Q a w :=
  wpIn_round_any hm hnd hq (wpAny_of_held _ _ _ _ h)
theorem wpIn_round_tail {id l n : Nat} {a : Act} {w : World} {L : List Oper} (k : Nat) (hm : P.follows .mixedOrders = true) (hnd : noDefer L.toArray = true) (hq : ¬ LetsOut Q) (hB : Region.lexTailB .any L.toArray k = true)
    (h : wpStill P L.toArray { w with drawn := w.drawn + 1 } (fun a' => wpList P L.toArray Q (L.drop k) a' { w with drawn := w.drawn + 1 }) (L.take k) a) : (Code.region id L.toArray true).wpIn (Fence.wide.inRound l) n P Q a w := by
  simp only [Region.lexTailB, Bool.and_eq_true, decide_eq_true_eq] at hB
  obtain ⟨⟨⟨⟨hsel, hn⟩, hs⟩, hc⟩, hlex⟩ := hB
  have hn' : k < L.length := by simpa using hn
  have htl : (L.take k).length = k := by simp; omega
  have hdl : (L.drop k).length = L.toArray.size - k := by simp
  have inv0 : HeadInv .any L.toArray k (Array.replicate L.toArray.size false) :=
    ⟨by simp, fun j oj _ hl => (by rw [getD_replicate_false] at hl; cases hl), fun t _ ht => getD_in (by simpa using ht) (getD_replicate_false _ _)⟩
  have H := wpAnyL_lex (md := .any) (g := L.toArray.size - k) hsel hs hc hn (L.take k) 0 _ a (fun j hj => by
    have hj' : j < k := by rw [htl] at hj; exact hj
    simp [hj']) (by simpa using htl) inv0 (by rw [htl]; exact hlex) h
  refine wpIn_round_any hm hnd hq ?_
  have := wpAny_of_head (Q' := Q) (g := L.toArray.size - k) (fun listed a' hL => by
    have := wpAny_of_seq (md := .any) (Q' := Q) (L.drop k) k listed a' { w with drawn := w.drawn + 1 } (fun j => by simp [List.getElem?_drop]) (by rw [hdl]; exact hL.1) hL.2
    rwa [hdl] at this) _ _ _ H
  rw [htl, show k + (L.toArray.size - k) = L.toArray.size by omega] at this
  exact this
end
end Go.Proofs.YteleknojohnlbaaGreat
namespace Go.Proofs.YteleknojohnlbaaGreat
namespace Cod
set_option linter.unusedVariables false
set_option maxRecDepth 100000
def digs (n : Nat) : List Nat := if n < 128 then [n] else (n % 128 + 128) :: digs (n / 128)
theorem digs_small {n : Nat} (h : n < 128) : digs n = [n] := by rw [digs, if_pos h]
theorem digs_big {n : Nat} (h : 128 ≤ n) : digs n = (n % 128 + 128) :: digs (n / 128) := by rw [digs, if_neg (by omega)]
theorem digs_pos (n : Nat) : 0 < (digs n).length := by
  by_cases h : n < 128
  · rw [digs_small h]; exact Nat.one_pos
  · rw [digs_big (by omega)]; exact Nat.succ_pos _
theorem digs_b (n : Nat) : ∀ x ∈ digs n, x < 256 := by
  induction n using Nat.strongRecOn with
  | _ n ih =>
    intro x hx
    by_cases h : n < 128
    · rw [digs_small h] at hx
      have : x = n := by simpa using hx
      omega
    · rw [digs_big (by omega)] at hx
      rcases List.mem_cons.1 hx with rfl | hx
      · omega
      · exact ih (n / 128) (by omega) x hx
theorem digs_len : ∀ (k n : Nat), n < 128 ^ k → (digs n).length ≤ k ∨ k = 0
  | 0, _, _ => Or.inr rfl
  | k + 1, n, h => by
    left
    by_cases hn : n < 128
    · rw [digs_small hn]; exact Nat.succ_le_succ (Nat.zero_le _)
    · rw [digs_big (by omega), List.length_cons]
      have h1 : n / 128 < 128 ^ k := by rw [Nat.pow_succ] at h; omega
      rcases digs_len k (n / 128) h1 with h2 | rfl
      · omega
      · simp at h1; omega
theorem digs_len10 {n : Nat} (h : n < 18446744073709551616) : (digs n).length ≤ 10 := by
  rcases digs_len 10 n (Nat.lt_trans h (by decide)) with h | h
  · exact h
  · cases h
def litZ (l : List Nat) (i : Nat) : Nat := l.getD i 0
theorem litZ_zero (x : Nat) (l : List Nat) : litZ (x :: l) 0 = x := rfl
theorem litZ_succ (x : Nat) (l : List Nat) (i : Nat) : litZ (x :: l) (i + 1) = litZ l i := by simp [litZ]
theorem litZ_b {l : List Nat} (h : ∀ x ∈ l, x < 256) (i : Nat) : litZ l i < 256 := by
  unfold litZ
  rw [List.getD]
  by_cases hi : i < l.length
  · rw [List.getElem?_eq_getElem hi]; exact h _ (List.getElem_mem hi)
  · rw [List.getElem?_eq_none (by omega)]; exact (by omega : (0 : Nat) < 256)
theorem litZ_app (l m : List Nat) (c : Nat) : jnZ l.length (litZ l) (litZ m) c = litZ (l ++ m) c := by
  unfold jnZ litZ
  simp only [List.getD]
  split
  · rename_i h; rw [List.getElem?_append_left h]
  · rename_i h; rw [List.getElem?_append_right (by omega)]
theorem litZ_range (k : Nat) (z : Nat → Nat) {i : Nat} (h : i < k) : litZ ((List.range k).map z) i = z i := by simp [litZ, List.getD, h]
def val (z : Nat → Nat) : Nat → Nat
  | 0 => 0
  | k + 1 => val z k + z k % 128 * 128 ^ k
theorem val_lt (z : Nat → Nat) : ∀ k, val z k < 128 ^ k
  | 0 => Nat.one_pos
  | k + 1 => by
    have h := val_lt z k
    have h1 : z k % 128 * 128 ^ k ≤ 127 * 128 ^ k := Nat.mul_le_mul_right _ (by omega)
    show val z k + z k % 128 * 128 ^ k < 128 ^ (k + 1)
    rw [Nat.pow_succ]
    omega
theorem val_cons (z : Nat → Nat) : ∀ k, val z (k + 1) = z 0 % 128 + 128 * val (fun i => z (i + 1)) k
  | 0 => by simp [val]
  | k + 1 => by
    show val z (k + 1) + z (k + 1) % 128 * 128 ^ (k + 1) = z 0 % 128 + 128 * (val (fun i => z (i + 1)) k + z (k + 1) % 128 * 128 ^ k)
    rw [val_cons z k, Nat.mul_add, Nat.pow_succ, Nat.add_assoc, Nat.add_left_cancel_iff, Nat.add_left_cancel_iff]
    rw [← Nat.mul_assoc, Nat.mul_comm _ 128]
theorem val_congr {z y : Nat → Nat} : ∀ {k : Nat}, (∀ i, i < k → z i = y i) → val z k = val y k
  | 0, _ => rfl
  | k + 1, h => by
    show val z k + z k % 128 * 128 ^ k = val y k + y k % 128 * 128 ^ k
    rw [val_congr fun i hi => h i (by omega), h k (by omega)]
theorem val_last (z : Nat → Nat) (k : Nat) : z k % 128 * 128 ^ k ≤ val z (k + 1) := Nat.le_add_left _ _
theorem digs_is (n : Nat) : ∃ k, (digs n).length = k + 1 ∧ (∀ i, i < k → 128 ≤ litZ (digs n) i) ∧ litZ (digs n) k < 128 ∧ (litZ (digs n) k = 0 → k = 0) ∧ val (litZ (digs n)) (k + 1) = n := by
  induction n using Nat.strongRecOn with
  | _ n ih =>
    by_cases h : n < 128
    · rw [digs_small h]
      refine ⟨0, rfl, fun i hi => absurd hi (Nat.not_lt_zero i), h, fun _ => rfl, ?_⟩
      simp [val, litZ]
      omega
    · obtain ⟨k, e1, e2, e3, e4, e5⟩ := ih (n / 128) (by omega)
      rw [digs_big (by omega)]
      refine ⟨k + 1, by rw [List.length_cons, e1], fun i hi => ?_, by rw [litZ_succ]; exact e3, fun e => ?_, ?_⟩
      · cases i with
        | zero => rw [litZ_zero]; omega
        | succ i => rw [litZ_succ]; exact e2 i (by omega)
      · rw [litZ_succ] at e
        have hk := e4 e
        subst hk
        have e6 := e5
        simp [val] at e6
        rw [e] at e6
        omega
      · rw [val_cons, litZ_zero]
        rw [val_congr (y := litZ (digs (n / 128))) fun i _ => litZ_succ _ _ i, e5]
        omega
def Rd (n : Nat) (z : Nat → Nat) (k e : Nat) : Prop :=
  (e = 0 ∧ 0 < k ∧ k ≤ n ∧ k ≤ 10 ∧ (∀ i, i + 1 < k → 128 ≤ z i) ∧ z (k - 1) < 128 ∧ (k = 10 → z 9 ≤ 1) ∧ (z (k - 1) = 0 → k = 1)) ∨
  (e = 6 ∧ k = 0 ∧ n ≤ 9 ∧ ∀ i, i < n → 128 ≤ z i) ∨
  (e = 7 ∧ k = 0 ∧ ((9 < n ∧ (∀ i, i < 9 → 128 ≤ z i) ∧ 1 < z 9) ∨ ∃ j, 0 < j ∧ j < n ∧ j ≤ 9 ∧ (∀ i, i < j → 128 ≤ z i) ∧ z j = 0))
theorem rd_ok {n m : Nat} {z : Nat → Nat} (h1 : m < n) (h2 : m ≤ 9) (h3 : ∀ i, i < m → 128 ≤ z i) (h4 : z m < 128) (h5 : m = 9 → z 9 ≤ 1) (h6 : z m = 0 → m = 0) : Rd n z (m + 1) 0 :=
  Or.inl ⟨rfl, by omega, by omega, by omega, fun i hi => h3 i (by omega), by simpa using h4, fun h => h5 (by omega), fun h => by have := h6 (by simpa using h); omega⟩
theorem rd_short {n : Nat} {z : Nat → Nat} (h1 : n ≤ 9) (h2 : ∀ i, i < n → 128 ≤ z i) : Rd n z 0 6 := Or.inr (Or.inl ⟨rfl, rfl, h1, h2⟩)
theorem rd_long {n : Nat} {z : Nat → Nat} (h1 : 9 < n) (h2 : ∀ i, i < 9 → 128 ≤ z i) (h3 : 1 < z 9) : Rd n z 0 7 := Or.inr (Or.inr ⟨rfl, rfl, Or.inl ⟨h1, h2, h3⟩⟩)
theorem rd_idle {n j : Nat} {z : Nat → Nat} (h1 : 0 < j) (h2 : j < n) (h3 : j ≤ 9) (h4 : ∀ i, i < j → 128 ≤ z i) (h5 : z j = 0) : Rd n z 0 7 := Or.inr (Or.inr ⟨rfl, rfl, Or.inr ⟨j, h1, h2, h3, h4, h5⟩⟩)
theorem rd_ok_short {n : Nat} {z : Nat → Nat} {k : Nat} (h : Rd n z k 0) : 0 < k ∧ k ≤ n ∧ k ≤ 10 ∧ (∀ i, i + 1 < k → 128 ≤ z i) ∧ z (k - 1) < 128 ∧ (k = 10 → z 9 ≤ 1) ∧ (z (k - 1) = 0 → k = 1) := by
  rcases h with h | ⟨h, _⟩ | ⟨h, _⟩
  · exact h.2
  · cases h
  · cases h
theorem rd_one {n : Nat} {z : Nat → Nat} {k e k' e' : Nat} (h : Rd n z k e) (h' : Rd n z k' e') : k = k' ∧ e = e' := by
  have lo : ∀ {a b : Nat}, (a < n ∨ a < 10) → z a < 128 → (∀ i, i < b → 128 ≤ z i) → b ≤ a := fun {a b} _ h1 h2 => by
    rcases Nat.lt_or_ge a b with q | q
    · have := h2 a q; omega
    · exact q
  rcases h with ⟨h1, h2, h3, h4, h5, h6, h7, h8⟩ | ⟨h1, h2, h3, h4⟩ | ⟨h1, h2, ⟨h3, h4, h5⟩ | ⟨j, h3, h4, h5, h6, h7⟩⟩ <;>
    rcases h' with ⟨g1, g2, g3, g4, g5, g6, g7, g8⟩ | ⟨g1, g2, g3, g4⟩ | ⟨g1, g2, ⟨g3, g4, g5⟩ | ⟨j', g3, g4, g5, g6, g7⟩⟩
  · rcases Nat.lt_trichotomy k k' with q | q | q
    · have := g5 (k - 1) (by omega); omega
    · exact ⟨q, by omega⟩
    · have := h5 (k' - 1) (by omega); omega
  · have := g4 (k - 1) (by omega); omega
  · rcases Nat.lt_or_ge (k - 1) 9 with q | q
    · have := g4 (k - 1) q; omega
    · have := h7 (by omega); omega
  · rcases Nat.lt_trichotomy (k - 1) j' with q | q | q
    · have := g6 (k - 1) q; omega
    · rw [← q] at g7; have := h8 g7; omega
    · have := h5 j' (by omega); omega
  · have := h4 (k' - 1) (by omega); omega
  · omega
  · omega
  · have := h4 j' g4; omega
  · rcases Nat.lt_or_ge (k' - 1) 9 with q | q
    · have := h4 (k' - 1) q; omega
    · have := g7 (by omega); omega
  · omega
  · omega
  · omega
  · rcases Nat.lt_trichotomy (k' - 1) j with q | q | q
    · have := h6 (k' - 1) q; omega
    · rw [← q] at h7; have := g8 h7; omega
    · have := g5 j (by omega); omega
  · have := g4 j h4; omega
  · omega
  · omega
theorem rd_some (n : Nat) (z : Nat → Nat) : ∃ k e, Rd n z k e := by
  have step : ∀ m, m ≤ 10 → (m ≤ n ∧ ∀ i, i < m → 128 ≤ z i) ∨ ∃ k e, Rd n z k e := by
    intro m
    induction m with
    | zero => exact fun _ => Or.inl ⟨Nat.zero_le _, fun i hi => absurd hi (Nat.not_lt_zero i)⟩
    | succ m ih =>
      intro hm
      rcases ih (by omega) with ⟨h1, h2⟩ | h
      · by_cases hn : m < n
        · by_cases hz : z m < 128
          · right
            by_cases h9 : m = 9 ∧ 1 < z 9
            · exact ⟨0, 7, rd_long (by omega) (fun i hi => h2 i (by omega)) h9.2⟩
            · by_cases h0 : z m = 0 ∧ 0 < m
              · exact ⟨0, 7, rd_idle h0.2 hn (by omega) h2 h0.1⟩
              · exact ⟨m + 1, 0, rd_ok hn (by omega) h2 hz (fun e => by
                  rcases Nat.lt_or_ge 1 (z 9) with q | q
                  · exact absurd ⟨e, q⟩ h9
                  · exact q) (fun e => by
                  rcases Nat.eq_zero_or_pos m with q | q
                  · exact q
                  · exact absurd ⟨e, q⟩ h0)⟩
          · left
            refine ⟨hn, fun i hi => ?_⟩
            by_cases e : i = m
            · subst e; omega
            · exact h2 i (by omega)
        · right
          exact ⟨0, 6, rd_short (by omega) (fun i hi => h2 i (by omega))⟩
      · exact Or.inr h
  rcases step 10 (Nat.le_refl _) with ⟨h1, h2⟩ | h
  · exact ⟨0, 7, rd_long (by omega) (fun i hi => h2 i (by omega)) (by have := h2 9 (by omega); omega)⟩
  · exact h
theorem rd_digs {m n : Nat} {z : Nat → Nat} (h : m < 18446744073709551616) (hz : ∀ i, i < (digs m).length → z i = litZ (digs m) i) (hn : (digs m).length ≤ n) : Rd n z (digs m).length 0 ∧ val z (digs m).length = m := by
  obtain ⟨k, e1, e2, e3, e4, e5⟩ := digs_is m
  have hl := digs_len10 h
  rw [e1] at hz hn hl ⊢
  have hv : val z (k + 1) = m := by rw [val_congr (y := litZ (digs m)) hz]; exact e5
  refine ⟨rd_ok (by omega) (by omega) (fun i hi => by rw [hz i (by omega)]; exact e2 i hi) (by rw [hz k (by omega)]; exact e3) (fun e => ?_) (fun e => e4 (by rw [← hz k (by omega)]; exact e)), hv⟩
  subst e
  have h1 := val_last z 9
  rw [hv, hz 9 (by omega)] at h1
  rw [hz 9 (by omega)]
  have e : (128 : Nat) ^ 9 = 9223372036854775808 := by decide
  rw [e] at h1
  rw [Nat.mod_eq_of_lt e3] at h1
  rcases Nat.lt_or_ge 1 (litZ (digs m) 9) with q | q
  · have := Nat.mul_le_mul_right 9223372036854775808 q
    omega
  · exact q
def badB (top s k d : Nat) (l : Bool) : Bool := (decide (k = 9) && !l) || (l && decide (d = 0) && decide (0 < k)) || decide ((top - s) / 128 ^ k < d)
theorem room {top k : Nat} (h : 9223372036854775807 ≤ top) (hk : k ≤ 8) {s d : Nat} (hs : s < 128 ^ k) (hd : d < 128) : ¬ (top - s) / 128 ^ k < d := by
  intro h1
  have h2 : (top - s) / 128 ^ k < 127 := by omega
  rw [Nat.div_lt_iff_lt_mul (Nat.pow_pos (by omega))] at h2
  have h3 : 128 ^ k ≤ 128 ^ 8 := Nat.pow_le_pow_right (by omega) hk
  have e : (128 : Nat) ^ 8 = 72057594037927936 := by decide
  rw [e] at h3
  omega
theorem bad_is {top n m k e : Nat} {z : Nat → Nat} (ht : 9223372036854775807 ≤ top) (ht2 : top < 18446744073709551616) (h : Rd n z k e) (hm : m < n) (hm9 : m ≤ 9) (hz : ∀ i, i < m → 128 ≤ z i) (hb : badB top (val z m) m (z m % 128) (decide (z m < 128)) = true) : e = 7 ∨ (e = 0 ∧ top < val z k) := by
  have e9 : (128 : Nat) ^ 9 = 9223372036854775808 := by decide
  unfold badB at hb
  simp only [Bool.or_eq_true, Bool.and_eq_true, decide_eq_true_eq, Bool.not_eq_true', decide_eq_false_iff_not] at hb
  rcases hb with (⟨rfl, h1⟩ | ⟨⟨h1, h2⟩, h3⟩) | h1
  · exact Or.inl (rd_one h (rd_long hm hz (by omega))).2
  · exact Or.inl (rd_one h (rd_idle h3 hm hm9 hz (by omega))).2
  · rcases Nat.lt_or_ge m 9 with q | q
    · exact absurd h1 (room ht (by omega) (val_lt z m) (Nat.mod_lt _ (by omega)))
    · obtain rfl : m = 9 := by omega
      by_cases h9 : 1 < z 9
      · exact Or.inl (rd_one h (rd_long hm hz h9)).2
      · have h10 : z 9 = 1 := by
          rcases Nat.lt_or_ge (z 9) 1 with q | q
          · have : z 9 % 128 = 0 := by omega
            rw [this] at h1
            omega
          · omega
        have hr := rd_ok (z := z) (n := n) (m := 9) hm (by omega) hz (by omega) (fun _ => by omega) (fun e => by omega)
        obtain ⟨rfl, rfl⟩ := rd_one h hr
        refine Or.inr ⟨rfl, ?_⟩
        have hv := val_lt z 9
        show top < val z 9 + z 9 % 128 * 128 ^ 9
        rw [h10] at h1 ⊢
        rw [e9] at h1 hv ⊢
        omega
theorem good_is {top n m k e : Nat} {z : Nat → Nat} (ht2 : top < 18446744073709551616) (h : Rd n z k e) (hm : m < n) (hm9 : m ≤ 9) (hz : ∀ i, i < m → 128 ≤ z i) (hs : val z m ≤ top) (hl : z m < 128) (hb : badB top (val z m) m (z m % 128) (decide (z m < 128)) = false) : e = 0 ∧ k = m + 1 ∧ val z k ≤ top := by
  unfold badB at hb
  simp only [Bool.or_eq_false_iff, Bool.and_eq_false_iff, decide_eq_false_iff_not, Bool.not_eq_false', decide_eq_true_eq] at hb
  obtain ⟨⟨h1, h2⟩, h3⟩ := hb
  rw [Nat.mod_eq_of_lt hl] at h2 h3
  have hmul : z m * 128 ^ m ≤ top - val z m := by
    rw [Nat.not_lt, Nat.le_div_iff_mul_le (Nat.pow_pos (by omega))] at h3
    exact h3
  have hr := rd_ok hm hm9 hz hl (fun e => by
    subst e
    rcases Nat.lt_or_ge 1 (z 9) with q | q
    · have e9 : (128 : Nat) ^ 9 = 9223372036854775808 := by decide
      rw [e9] at hmul
      have := Nat.mul_le_mul_right 9223372036854775808 q
      omega
    · exact q) (fun e => by
    rcases h2 with (h2 | h2) | h2
    · exact absurd hl h2
    · exact absurd e h2
    · omega)
  obtain ⟨rfl, rfl⟩ := rd_one h hr
  refine ⟨rfl, rfl, ?_⟩
  show val z m + z m % 128 * 128 ^ m ≤ top
  rw [Nat.mod_eq_of_lt hl]
  omega
theorem on_is {top m : Nat} {s d : Nat} (hs : s ≤ top) (hm9 : m ≤ 9) (hb : badB top s m d false = false) : m + 1 ≤ 9 ∧ s + d * 128 ^ m ≤ top := by
  unfold badB at hb
  simp only [Bool.or_eq_false_iff, Bool.and_eq_false_iff, decide_eq_false_iff_not, Bool.not_eq_false'] at hb
  obtain ⟨⟨h1, h2⟩, h3⟩ := hb
  rw [Nat.not_lt, Nat.le_div_iff_mul_le (Nat.pow_pos (by omega))] at h3
  refine ⟨?_, by omega⟩
  rcases h1 with h1 | h1
  · omega
  · cases h1
def resV (top : Nat) (z : Nat → Nat) (k e : Nat) : Nat := if e = 0 then if val z k ≤ top then val z k else 0 else 0
def resK (top : Nat) (z : Nat → Nat) (k e : Nat) : Nat := if e = 0 then if val z k ≤ top then k else 0 else 0
def resE (top : Nat) (z : Nat → Nat) (k e : Nat) : Nat := if e = 0 then if val z k ≤ top then 0 else 7 else e
theorem res_ok {top k e : Nat} {z : Nat → Nat} (h : e = 0) (h2 : val z k ≤ top) : resV top z k e = val z k ∧ resK top z k e = k ∧ resE top z k e = 0 := by
  unfold resV resK resE; rw [if_pos h, if_pos h, if_pos h, if_pos h2, if_pos h2, if_pos h2]; exact ⟨rfl, rfl, rfl⟩
theorem res_bad {top k e : Nat} {z : Nat → Nat} (h : e = 7 ∨ (e = 0 ∧ top < val z k)) : resV top z k e = 0 ∧ resK top z k e = 0 ∧ resE top z k e = 7 := by
  unfold resV resK resE
  rcases h with rfl | ⟨rfl, h⟩
  · exact ⟨rfl, rfl, rfl⟩
  · rw [if_pos rfl, if_pos rfl, if_pos rfl, if_neg (by omega), if_neg (by omega), if_neg (by omega)]; exact ⟨rfl, rfl, rfl⟩
end Cod
end Go.Proofs.YteleknojohnlbaaGreat
namespace Go.Proofs.YteleknojohnlbaaGreat
open Go.RowKit Cod
set_option linter.unusedVariables false
set_option maxRecDepth 100000
theorem wide_fn (f : FuncId) : Fence.wide.fn f = True := rfl
theorem wide_depth : Fence.wide.depth = none := rfl
attribute [local go_sem] Oper.semAt_some wide_fn wide_depth
theorem digits_any (n : Nat) (w : World) : Calls Tryz.prog 130 #[.int .u64 (n : Int)] w fun e w' => e = .returned (.func (.func 137) #[] #[.pointer (some ⟨w.heap.size, 0, none⟩)]) ∧ w.alloc (.cells #[.int .u64 (n : Int)] 169) = w' := by
  go_enter Tryz.func130, Tryz.ntmps130
  go_wp2
  go_ret
  exact ⟨rfl, rfl⟩
abbrev Byte := { x : Nat // x < 256 }
def raw (l : List Byte) : List Nat := l.map (·.1)
theorem raw_snoc (l : List Byte) (x : Byte) : raw (l ++ [x]) = raw l ++ [x.1] := by simp [raw]
set_option maxHeartbeats 1000000 in
set_option maxRecDepth 100000 in
theorem digs1_in (m : Nat) (hm : 1 ≤ m) (l Bs n N : Nat) (hn : n < 18446744073709551616) (hN : N = (digs n).length) (J Jx : List Byte → World → Prop)
    (hY : ∀ pre x W, J pre W → pre.length < N → YieldAt Fence.wide (m - 1) Tryz.prog l #[.int .u8 (x.1 : Int)] W fun e W' =>
      (e = .returned (.bool true) ∧ J (pre ++ [x]) W' ∧ True) ∨ (e = .returned (.bool false) ∧ Jx (pre ++ [x]) W'))
    (W : World) (hB : W.cell? ⟨Bs, 0, none⟩ = some (.int .u64 (n : Int))) (h0 : J [] W) :
    CallsIn Fence.wide m Tryz.prog 137 #[.func (.yield l) #[] #[], .pointer (some ⟨Bs, 0, none⟩)] W fun e W' => (∃ v, e = .returned v) ∧
      ((∃ ys, raw ys = digs n ∧ J ys W') ∨ (∃ pre, True ∧ Jx pre W')) := by
  have HN := Lib.hid hN
  have HL := Lib.hid hn
  clear hN
  refine callsIn_of_wp Tryz.func137 rfl trivial ?_ rfl
  simp only [Tryz.ntmps137, List.size_toArray, List.length_cons, List.length_nil, Nat.reduceAdd, Nat.reduceSub, Array.replicate_succ, Array.replicate_zero, List.push_toArray, List.append_toArray, List.nil_append, List.cons_append]
  gi_wp2
  gi_loopw [3] (fun p wr => ∃ (pre : List Byte) (r : Nat), p = .int .u64 (r : Int) ∧ r ≤ n ∧ Hid (digs n = raw pre ++ digs r) ∧ J pre wr) (fun p _ => (intOf p).toNat)
  case atStart => exact ⟨[], n, rfl, Nat.le_refl _, rfl, h0⟩
  case round =>
    obtain ⟨pre, r, rfl, hrn, HD, hJ⟩ := hrel
    by_cases hlt : r < 128
    · have hlen : pre.length < N := by
        rw [HN.out, HD.out, digs_small hlt]; simp [raw]
      obtain ⟨fn, tmps, assign, body, hy, hR⟩ := hY pre ⟨r, by omega⟩ wr hJ hlen
      have HF := Lib.hid (show raw (pre ++ [⟨r, by omega⟩]) = digs n by rw [raw_snoc, HD.out, digs_small hlt])
      dsimp only at hy
      clear hlen
      gi_wp2
      refine hR.mono ?_
      rintro e W3 (⟨rfl, hJ3, _⟩ | ⟨rfl, hJx3⟩)
      · gi_wp2
        go_end0
        exact ⟨⟨_, rfl⟩, .inl ⟨_, HF.out, hJ3⟩⟩
      · gi_wp2
        go_end0
        exact ⟨⟨_, rfl⟩, .inr ⟨_, trivial, hJx3⟩⟩
    · have hlen : pre.length < N := by
        rw [HN.out, HD.out, digs_big (by omega)]; simp [raw]
      obtain ⟨fn, tmps, assign, body, hy, hR⟩ := hY pre ⟨r % 128 + 128, by omega⟩ wr hJ hlen
      have HF := Lib.hid (show digs n = raw (pre ++ [⟨r % 128 + 128, by omega⟩]) ++ digs (r / 128) by rw [raw_snoc, HD.out, digs_big (by omega), List.append_assoc]; rfl)
      have hy' : (Instr.yield l #[.int .u8 ((r : Int) % 128 + 128)]).run Tryz.prog wr = .ok (.round l fn tmps assign body) wr := by simpa using hy
      clear hlen hy
      gi_wp2
      refine hR.mono ?_
      rintro e W3 (⟨rfl, hJ3, _⟩ | ⟨rfl, hJx3⟩)
      · gi_wp2
        go_roundw
        case rel => exact ⟨_, r / 128, by simp, by omega, HF, hJ3⟩
        case measure => simp [intOf]; omega
      · gi_wp2
        refine bodyPost_ret (results_none rfl _ _ _) rfl ?_
        exact ⟨⟨_, rfl⟩, .inr ⟨_, trivial, hJx3⟩⟩
theorem digs_stops (m : Nat) (hm : 1 ≤ m) (Bs n : Nat) (hn : n < 18446744073709551616) (w : World) (hBs : Bs < w.heap.size) (hc : w.cell? ⟨Bs, 0, none⟩ = some (.int .u64 (n : Int))) :
    SeqStopsK Fence.wide m Tryz.prog 137 #[.pointer (some ⟨Bs, 0, none⟩)] (fun x : Byte => #[Value.int .u8 (x.1 : Int)]) (fun _ _ => True) (fun ys => raw ys = digs n) (fun _ => True) (digs n).length w :=
  fun l J Jx W hW _ _ hY h0 => digs1_in m hm l Bs n _ hn rfl J Jx hY W ((hW.cell (p := ⟨Bs, 0, none⟩) hBs).trans hc) h0
end Go.Proofs.YteleknojohnlbaaGreat
