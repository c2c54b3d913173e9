/-
  Matrices that are built by append, row by row; what calls answer.
-/
import Derived.Test.YtlgdajmidcdiaaaTurn
import Derived.Deep.AppendLies
namespace Go.Proofs.Ytlgdajmidcdiaaa
open Go.RowKit
set_option linter.unusedVariables false

theorem add_pl (b o j : Nat) : (⟨b, o, none⟩ : Addr).add j = ⟨b, o + j, none⟩ := by unfold Addr.add; split <;> simp_all
theorem ownsRow_ch {w w' : World} {base : Nat} {e : TypeId} {v : Value} {n : Nat} {xs : List Value} (h : w.ownsRow base e 1 v n xs) (k : Ch (fun _ => False) w w') : w'.ownsRow base e 1 v n xs := by
  refine ⟨h.1, ?_⟩
  rcases h.2 with hn | ⟨g, cap, cur, rfl, hb, hgg, rest⟩
  · exact Or.inl hn
  · exact Or.inr ⟨g, cap, cur, rfl, hb, (k.block g (Array.getElem?_eq_some_iff.1 hgg).1 (fun f => f)).trans hgg, rest⟩
def bytesL (k : Nat) (z : Nat → Nat) : List Value := (List.range k).map fun c => Value.int .u8 (z c : Int)
theorem bytesL_snoc (k : Nat) (z : Nat → Nat) : bytesL (k + 1) z = bytesL k z ++ [Value.int .u8 (z k : Int)] := by unfold bytesL; rw [List.range_succ, List.map_append]; rfl
theorem ownsRow_rowV {w : World} {base k : Nat} {v : Value} {z : Nat → Nat} (h : w.ownsRow base /-t-/5 1 v k (bytesL k z)) (hk : k ≤ 140737488351232) (hz : Bytes k z) : RowV w v k z := by
  rcases h.2 with ⟨rfl, h0⟩ | ⟨g, cap, cur, rfl, hb, hgg, hcap, hm, hs, ht⟩
  · subst h0; exact ⟨none, 0, rfl, ⟨hk, Nat.le_refl _⟩, fun h => absurd h (Nat.lt_irrefl 0)⟩
  · refine ⟨_, _, rfl, ⟨hk, hcap⟩, fun _ => ⟨g, 0, rfl, fun c hc => ⟨?_, hz c hc⟩⟩⟩
    have := World.ownsRow.cells h (g := g) rfl c (Value.int .u8 (z c : Int)) (by unfold bytesL; simp [hc])
    rwa [add_pl] at this
theorem rowIs_owns {w : World} {b t m base : Nat} {f : Nat → Value} (h : w.rowIs b t m f) (hb : base ≤ b) (hm : m ≤ maxLen) : w.ownsRow base t 1 (.slice (some ⟨b, 0, none⟩) m m) m ((List.range m).map f) := by
  obtain ⟨c, hc, hs, hf⟩ := h
  refine ⟨by simp, Or.inr ⟨b, m, c, rfl, hb, hc, Nat.le_refl _, hm, by omega, ?_⟩⟩
  refine List.ext_getElem? fun i => ?_
  rw [Nat.mul_one, List.getElem?_take]
  by_cases hi : i < m
  · rw [if_pos hi, Array.getElem?_toList, hf i hi]; simp [hi]
  · rw [if_neg hi, List.getElem?_eq_none (by simp; omega)]

/-- A block from lo on, of which, if lo is above 0, nothing is frozen. -/
def Far (lo : Nat) (w : World) (b : Nat) : Prop := lo ≤ b ∧ (1 ≤ lo → ∃ c t, w.heap[b]? = some (.cells c t (0, 0)))
theorem Far.zero (w : World) (b : Nat) : Far 0 w b := ⟨Nat.zero_le _, fun h => absurd h (by omega)⟩
theorem Far.of_block {lo : Nat} {w w' : World} {b : Nat} (h : Far lo w b) (e : w'.heap[b]? = w.heap[b]?) : Far lo w' b := ⟨h.1, fun q => by
  obtain ⟨c, t, hc⟩ := h.2 q
  exact ⟨c, t, e.trans hc⟩⟩
theorem Far.ch {lo : Nat} {w w' : World} {b : Nat} (h : Far lo w b) (k : Ch (fun _ => False) w w') (hb : b < w.heap.size) : Far lo w' b := h.of_block (k.block b hb (fun f => f))
theorem Far.low {lo lo2 : Nat} {w : World} {b : Nat} (h : Far lo w b) (hl : lo2 ≤ lo) : Far lo2 w b := ⟨Nat.le_trans hl h.1, fun q => h.2 (by omega)⟩
theorem Far.owns {lo base : Nat} {w : World} {e : TypeId} {v : Value} {n b : Nat} {xs : List Value} (h : w.ownsRow base e 1 v n xs) (hv : v.ownBlock = some b) (hl : lo ≤ b) : Far lo w b := ⟨hl, fun _ => by
  rcases h.2 with ⟨rfl, _⟩ | ⟨g, cap, cur, rfl, _, hgg, _⟩
  · cases hv
  · have e' : g = b := by simpa [Value.ownBlock] using hv
    rw [← e']
    exact ⟨cur, _, hgg⟩⟩
theorem Far.row {lo : Nat} {w : World} {b : Nat} {t : TypeId} {n : Nat} {f : Nat → Value} (h : w.rowIs b t n f) (hl : lo ≤ b) : Far lo w b := ⟨hl, fun _ => by
  obtain ⟨c, hc, _⟩ := h
  exact ⟨c, _, hc⟩⟩
/-- A matrix of k rows, built by append: its own row, and its rows' values, none of which lies in it. -/
def BldL (base lo : Nat) (w : World) (v : Value) (k : Nat) (L : Nat → Nat) (Z : Nat → Nat → Nat) : Prop :=
  ∃ xs, w.ownsRow base /-t-/33 1 v k xs ∧ ∀ r, r < k → ∃ x, xs[r]? = some x ∧ RowV w x (L r) (Z r) ∧ ∀ b, x.ownBlock = some b → b < w.heap.size ∧ v.ownBlock ≠ some b ∧ Far lo w b
/-- The same, all of it new. -/
def Bld (base : Nat) (w : World) (v : Value) (k : Nat) (L : Nat → Nat) (Z : Nat → Nat → Nat) : Prop := BldL base base w v k L Z
theorem BldL.nil (base lo : Nat) (w : World) (L : Nat → Nat) (Z : Nat → Nat → Nat) : BldL base lo w (.slice none 0 0) 0 L Z := ⟨[], World.ownsRow_nil _ _ _ _, fun r hr => absurd hr (Nat.not_lt_zero r)⟩
theorem Bld.nil (base : Nat) (w : World) (L : Nat → Nat) (Z : Nat → Nat → Nat) : Bld base w (.slice none 0 0) 0 L Z := BldL.nil _ _ _ _ _
theorem BldL.ch {base lo : Nat} {w w' : World} {v : Value} {k : Nat} {L : Nat → Nat} {Z : Nat → Nat → Nat} (h : BldL base lo w v k L Z) (c : Ch (fun _ => False) w w') : BldL base lo w' v k L Z := by
  obtain ⟨xs, h1, h2⟩ := h
  refine ⟨xs, ownsRow_ch h1 c, fun r hr => ?_⟩
  obtain ⟨x, hx, hv, ho⟩ := h2 r hr
  exact ⟨x, hx, hv.ch c (fun _ _ f => f), fun b hb => ⟨Nat.lt_of_lt_of_le (ho b hb).1 c.size, (ho b hb).2.1, (ho b hb).2.2.ch c (ho b hb).1⟩⟩
theorem Bld.ch {base : Nat} {w w' : World} {v : Value} {k : Nat} {L : Nat → Nat} {Z : Nat → Nat → Nat} (h : Bld base w v k L Z) (c : Ch (fun _ => False) w w') : Bld base w' v k L Z := BldL.ch h c
theorem BldL.mat {base lo : Nat} {w : World} {v : Value} {k : Nat} {L : Nat → Nat} {Z : Nat → Nat → Nat} (h : BldL base lo w v k L Z) (hk : k ≤ 140737488351232) : MatV w v k L Z := by
  obtain ⟨xs, h1, h2⟩ := h
  rcases h1.2 with ⟨rfl, h0⟩ | ⟨g, cap, cur, rfl, hb, hgg, hcap, hm, hs, ht⟩
  · subst h0; exact ⟨none, 0, rfl, ⟨hk, Nat.le_refl _⟩, fun h => absurd h (Nat.lt_irrefl 0)⟩
  · refine ⟨_, _, rfl, ⟨hk, hcap⟩, fun _ => ⟨g, 0, rfl, fun r hr => ?_⟩⟩
    obtain ⟨x, hx, hv, _⟩ := h2 r hr
    have := World.ownsRow.cells h1 (g := g) rfl r x hx
    rw [add_pl] at this
    exact ⟨x, this, hv⟩
theorem Bld.mat {base : Nat} {w : World} {v : Value} {k : Nat} {L : Nat → Nat} {Z : Nat → Nat → Nat} (h : Bld base w v k L Z) (hk : k ≤ 140737488351232) : MatV w v k L Z := BldL.mat h hk
/-- What the law of append asks and leaves, for one row more. -/
theorem Bld.more {base lo : Nat} {w w' : World} {v x : Value} {k g cap : Nat} {L : Nat → Nat} {Z : Nat → Nat → Nat} {xs : List Value} (o : Obj) (h1 : w.ownsRow base /-t-/33 1 v k xs)
    (h2 : ∀ r, r < k → ∃ x, xs[r]? = some x ∧ RowV w x (L r) (Z r) ∧ ∀ b, x.ownBlock = some b → b < w.heap.size ∧ v.ownBlock ≠ some b ∧ Far lo w b)
    (hx : RowV w x (L k) (Z k)) (hb : ∀ b, x.ownBlock = some b → b < w.heap.size ∧ v.ownBlock ≠ some b ∧ Far lo w b)
    (h : w'.ownsRow base /-t-/33 1 (.slice (some ⟨g, 0, none⟩) (k + 1) cap) (k + 1) (xs ++ [x])) (hg : (w.alloc o).grownBy w' v.ownBlock) (hat : v.ownBlock = some g ∨ g = w.heap.size + 1) :
    BldL base lo w' (.slice (some ⟨g, 0, none⟩) (k + 1) cap) (k + 1) L Z := by
  have hlen : xs.length = k := by have := h1.1; omega
  have hsz : w.heap.size + 1 ≤ w'.heap.size := by have := hg.size; simpa using this
  have keepRow : ∀ y l z, RowV w y l z → (∀ b, y.ownBlock = some b → b < w.heap.size ∧ v.ownBlock ≠ some b ∧ Far lo w b) → RowV w' y l z ∧ ∀ b, y.ownBlock = some b → b < w'.heap.size ∧ (Value.slice (some ⟨g, 0, none⟩) (k + 1) cap).ownBlock ≠ some b ∧ Far lo w' b := by
    intro y l z hy ho
    refine ⟨?_, fun b hb => ?_⟩
    · obtain ⟨A, C, rfl, hl, hc⟩ := hy
      refine ⟨A, C, rfl, hl, fun h0 => ?_⟩
      obtain ⟨b, o', rfl, hc2⟩ := hc h0
      refine ⟨b, o', rfl, fun c hcl => ⟨?_, (hc2 c hcl).2⟩⟩
      have hbb := ho b rfl
      have e1 : w'.heap[b]? = w.heap[b]? := (hg.block b (by simpa using Nat.lt_succ_of_lt hbb.1) (fun e => hbb.2.1 e.symm)).trans (Below.heap_alloc w o b hbb.1)
      exact (World.cell?_of_block (a := ⟨b, o' + c, none⟩) e1).trans (hc2 c hcl).1
    · have hbb := ho b hb
      refine ⟨by omega, fun e => ?_, hbb.2.2.of_block ((hg.block b (by simpa using Nat.lt_succ_of_lt hbb.1) (fun e => hbb.2.1 e.symm)).trans (Below.heap_alloc w o b hbb.1))⟩
      have e' : g = b := by simpa [Value.ownBlock] using e
      rcases hat with q | q
      · exact hbb.2.1 (by rw [q, e'])
      · omega
  refine ⟨xs ++ [x], h, fun r hr => ?_⟩
  by_cases e : r < k
  · obtain ⟨y, hy, hv, ho⟩ := h2 r e
    have := keepRow y _ _ hv ho
    exact ⟨y, by rw [List.getElem?_append_left (by omega)]; exact hy, this.1, this.2⟩
  · obtain rfl : r = k := by omega
    have := keepRow x _ _ hx hb
    exact ⟨x, by rw [List.getElem?_append_right (by omega), hlen]; simp, this.1, this.2⟩
theorem Bld.moreCh {base : Nat} {w0 w w' : World} {v : Value} {k : Nat} {xs : List Value} (c : Array Value) (t : TypeId) (hc : Ch (fun _ => False) w0 w) (h1 : w.ownsRow base /-t-/33 1 v k xs) (hb : w0.heap.size ≤ base) (hg : (w.alloc (.cells c t)).grownBy w' v.ownBlock) : Ch (fun _ => False) w0 w' :=
  (hc.alloc c t).grown hg (fun i hi => Or.inr (Nat.le_trans hb (World.ownsRow.lt h1 i hi).1))


/-! ### what calls answer -/
/-- Two results: a matrix, or nothing; and the error. -/
def MatPost (n m : Nat) (Z : Nat → Nat → Nat) (w : World) (e : Ending) (w' : World) : Prop :=
  ∃ v, e = .returned (.tuple #[v, .int .i64 0]) ∧ MatV w' v n (fun _ => m) Z ∧ Ch (fun _ => False) w w'
def ErrPost (k : Int) (w : World) (e : Ending) (w' : World) : Prop := e = .returned (.tuple #[.slice none 0 0, .int .i64 k]) ∧ Ch (fun _ => False) w w'
/-- The same, and all of it is new. -/
def FreshPost (n m : Nat) (Z : Nat → Nat → Nat) (w : World) (e : Ending) (w' : World) : Prop :=
  ∃ v, e = .returned (.tuple #[v, .int .i64 0]) ∧ Bld w.heap.size w' v n (fun _ => m) Z ∧ Ch (fun _ => False) w w'
theorem FreshPost.mat {n m : Nat} {Z : Nat → Nat → Nat} {w : World} {e : Ending} {w' : World} (hn : n ≤ 140737488351232) (h : FreshPost n m Z w e w') : MatPost n m Z w e w' := by
  obtain ⟨v, h1, h2, h3⟩ := h
  exact ⟨v, h1, h2.mat hn, h3⟩
theorem Own.bld {w : World} {base g n m : Nat} {B : Nat → Nat} {Z : Nat → Nat → Nat} (h : Own w g n m B Z) (hn : n ≤ 65536) (hm : m ≤ 65536) (hg : base ≤ g) (hB : ∀ r, r < n → base ≤ B r) : Bld base w (.slice (some ⟨g, 0, none⟩) n n) n (fun _ => m) Z := by
  refine ⟨_, rowIs_owns h.top hg (by unfold maxLen; omega), fun r hr => ⟨.slice (some ⟨B r, 0, none⟩) m m, by simp [hr], ?_, fun b hb => ?_⟩⟩
  · exact ⟨_, _, rfl, ⟨by show m ≤ 140737488351232; omega, Nat.le_refl _⟩, fun _ => ⟨B r, 0, rfl, fun c hc => ⟨by rw [Nat.zero_add]; exact (h.row r hr).cell hc, h.byte r c hr hc⟩⟩⟩
  · have e : B r = b := by simpa [Value.ownBlock] using hb
    subst e
    exact ⟨(h.row r hr).lt, fun q => h.off r hr (by simpa [Value.ownBlock] using q.symm), Far.row (h.row r hr) (hB r hr)⟩
end Go.Proofs.Ytlgdajmidcdiaaa
