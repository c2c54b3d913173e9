/-
  Fences and what stands between two rounds of a range over a function: a plain region within a round, what a round keeps, blocks of a row of one's own.
-/
import Derived.Test.YtkpgaejmhddkdaaRnd
import Derived.Test.YtkpgaejmhddkdaaWpl
namespace Go.Proofs.Ytkpgaejmhddkdaa
open Go.RowKit
set_option linter.unusedVariables false
set_option maxRecDepth 100000

theorem wide_fn (f : FuncId) : Fence.wide.fn f = True := rfl
theorem wide_depth : Fence.wide.depth = none := rfl
/-- A region that draws no order, within a round. -/
theorem wpIn_round_lit {P : Program} {Q : Exit → Act → World → Prop} {id l n : Nat} {a : Act} {w : World} {L : List Oper} (hnd : noDefer L.toArray = true) (hq : ¬ LetsOut Q) (h : wpList P L.toArray Q L a w) : (Code.region id L.toArray false).wpIn (Fence.wide.inRound l) n P Q a w :=
  wpIn_region (opsIn_of hnd hq _ a w (by rw [List.range_eq_range', ← Array.length_toList, wpOps_eq_wpList L 0 (by simp)]; exact h))
theorem keeps_ch {S : Nat → Prop} {B : Nat} {W W' : World} (h : Ch S W W') (hS : ∀ i, S i → i < B) : KeepsFrom B W W' :=
  ⟨h.size, fun k o hB hk _ => (h.block k (Array.getElem?_eq_some_iff.1 hk).1 (fun s => by have := hS k s; omega)).trans hk⟩
theorem row_ch {W W' : World} {row : Option Nat} (hg : W.grownBy W' row) : Ch (fun i => row = some i) W W' := (Ch.refl _ W).grown hg fun i e => Or.inl e
theorem ch_then {S T : Nat → Prop} {a b c : World} (h : Ch S a b) (k : Ch T b c) (hT : ∀ i, T i → S i ∨ a.heap.size ≤ i) : Ch S a c :=
  ⟨k.os.trans h.os, k.tape.trans h.tape, k.output.trans h.output, Nat.le_trans h.size k.size, fun i hi hS => (k.block i (Nat.lt_of_lt_of_le hi h.size) (fun t => (hT i t).elim hS (fun q => by omega))).trans (h.block i hi hS)⟩
theorem own_low {w : World} {base n k : Nat} {e : TypeId} {v : Value} {xs : List Value} (h : w.ownsRow base e k v n xs) : ∀ i, v.ownBlock = some i → base ≤ i := fun i q => by
  rcases h.2 with ⟨rfl, _⟩ | ⟨g, cap, cur, rfl, hb, _⟩
  · cases q
  · injection q with q; rw [← q]; exact hb
theorem own_cells {w : World} {base n k : Nat} {e : TypeId} {v : Value} {xs : List Value} (h : w.ownsRow base e k v n xs) : ∀ i, v.ownBlock = some i → ∃ c, w.heap[i]? = some (.cells c e (0, 0)) := fun i q => by
  rcases h.2 with ⟨rfl, _⟩ | ⟨g, cap, cur, rfl, hb, hg, _⟩
  · cases q
  · injection q with q; exact ⟨cur, by rw [← q]; exact hg⟩
theorem grown_ch {a b : World} (h : Ch (fun _ => False) a b) : a.grownBy b none := ⟨h.os, h.tape, h.output, h.size, fun k hk _ => h.block k hk (fun f => f)⟩
theorem grown_at {a b : World} {N : Nat} (h : Ch (fun i => i = N) a b) : a.grownBy b (some N) := ⟨h.os, h.tape, h.output, h.size, fun k hk hn => h.block k hk (fun e => hn (by rw [e]))⟩
/-- What a round leaves of the iterator's own blocks. -/
def KpX (X : Nat → Prop) (W W' : World) : Prop := ∀ i c t f, X i → W.heap[i]? = some (.cells c t f) → W'.heap[i]? = some (.cells c t f)
theorem KpX.trans {X : Nat → Prop} {A B C : World} (h : KpX X A B) (k : KpX X B C) : KpX X A C := fun i c t f hx hc => k i c t f hx (h i c t f hx hc)
theorem KpX.put {X : Nat → Prop} {l : Nat} {W : World} {o o' : Obj} (ho : W.heap[l]? = some o) (hc : o.isCells = false) : KpX X W (W.putObj l o') := fun i c t f _ h => (World.putObj_heap_other (fun e => by
  rw [e] at h; rw [h] at ho; cases ho; cases hc)).trans h
theorem KpX.of {X S : Nat → Prop} {W W' : World} (h : Ch S W W') (hX : ∀ i, X i → ¬ S i) : KpX X W W' := fun i c t f hx hc => (h.block i (Array.getElem?_eq_some_iff.1 hc).1 (hX i hx)).trans hc
theorem keeps_cells {S : Nat → Prop} {B : Nat} {W W' : World} (h : Ch S W W') (hS : ∀ i, S i → i < B ∨ ∃ c t f, W.heap[i]? = some (.cells c t f)) : KeepsFrom B W W' :=
  ⟨h.size, fun k o hB hk hc => (h.block k (Array.getElem?_eq_some_iff.1 hk).1 (fun s => by
    rcases hS k s with q | ⟨c, t, f, q⟩
    · omega
    · rw [hk] at q; cases q; cases hc)).trans hk⟩
/-- A row of one's own stands, whatever turns that is not its block. -/
theorem ownsRow_chS {S : Nat → Prop} {w w' : World} {base sz : Nat} {e : TypeId} {v : Value} {n : Nat} {xs : List Value} (h : w.ownsRow base e sz v n xs) (k : Ch S w w') (hS : ∀ i, v.ownBlock = some i → ¬ S i) : w'.ownsRow base e sz v n xs := by
  refine ⟨h.1, h.2.imp id ?_⟩
  rintro ⟨g, cap, cur, hv, hb, hg, r⟩
  exact ⟨g, cap, cur, hv, hb, (k.block g (Array.getElem?_eq_some_iff.1 hg).1 (hS g (by rw [hv]; rfl))).trans hg, r⟩
theorem ownsRow_base {w : World} {base base2 sz : Nat} {e : TypeId} {v : Value} {n : Nat} {xs : List Value} (h : w.ownsRow base e sz v n xs) (hb : base2 ≤ base) : w.ownsRow base2 e sz v n xs := by
  refine ⟨h.1, h.2.imp id ?_⟩
  rintro ⟨g, cap, cur, hv, hb2, r⟩
  exact ⟨g, cap, cur, hv, Nat.le_trans hb hb2, r⟩
/-- A variable in a block of its own is turned. -/
theorem var_set {w : World} {E : Nat} {a : Value} {t : TypeId} {f : Nat × Nat} (h : w.heap[E]? = some (.cells #[a] t f)) (v : Value) : (w.setCell ⟨E, 0, none⟩ v).heap[E]? = some (.cells #[v] t f) := blk_set (i := 0) h v
#print axioms KpX.of
end Go.Proofs.Ytkpgaejmhddkdaa
