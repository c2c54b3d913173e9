/-
  What a call has turned; answers; rows of one's own, of any element of one cell. (The words of Byt that speak of no bytes.). Rows of bytes in memory: rows that are read, rows of one's own, rows that are joined by append, rows as strings. (The words of Mem, Lst and App that speak of bytes alone, for programs without the field.). What is handed in, opened: the general part; the last step of a law's row where a call has made new memory. Bytes that are handed in, opened; an array of bytes by value.
-/
import Derived.Test.YtkpahhioiefcbaaRows
import Derived.WalkKit
import Derived.WalkSpells
import Derived.WalkLawsBesides
import Derived.Lib.Hide
import Derived.BigQuiet
import Derived.Deep.QuietTactic
import Derived.Deep.OwnRows
import Derived.Deep.Draws
import Derived.Deep.RegionHeld3
import Derived.Deep.LoopGhost
import Derived.StillTailTactics
import Derived.OneCell
import Derived.Laws.MakeOwn
import Derived.Laws.OwnMore
import Derived.Laws.CopyOwn
import Derived.Laws.BytesArg
import Derived.Deep.AppendLies
import Derived.Maps.AppendAt
import Derived.ProofKit
import Derived.OpenShut
import Derived.SizedLaws
import Derived.Carry
namespace Go.Proofs.Ytkpahhioiefcbaa
open Go.RowKit
set_option linter.unusedVariables false
set_option maxRecDepth 100000

theorem ret_int {k : IntKind} {a b : Int} (h : a = b) : Ending.returned (.int k a) = .returned (.int k b) := by rw [h]
theorem ret_bool {a b : Bool} (h : a = b) : Ending.returned (.bool a) = .returned (.bool b) := by rw [h]
theorem int_eq {k : IntKind} {a b : Int} (h : a = b) : Value.int k a = .int k b := by rw [h]
theorem add_pl (b o j : Nat) : (⟨b, o, none⟩ : Addr).add j = ⟨b, o + j, none⟩ := by unfold Addr.add; split <;> simp_all

/-! ### what has turned: the blocks of S alone, and what is new -/
structure Ch (S : Nat → Prop) (w w' : World) : Prop where
  os : w'.os = w.os
  tape : w'.tape = w.tape
  output : w'.output = w.output
  size : w.heap.size ≤ w'.heap.size
  block : ∀ k, k < w.heap.size → ¬ S k → w'.heap[k]? = w.heap[k]?
theorem Ch.refl (S : Nat → Prop) (w : World) : Ch S w w := ⟨rfl, rfl, rfl, Nat.le_refl _, fun _ _ _ => rfl⟩
theorem Ch.trans {S : Nat → Prop} {a b c : World} (h : Ch S a b) (k : Ch S b c) : Ch S a c :=
  ⟨k.os.trans h.os, k.tape.trans h.tape, k.output.trans h.output, Nat.le_trans h.size k.size, fun i hi hS => (k.block i (Nat.lt_of_lt_of_le hi h.size) hS).trans (h.block i hi hS)⟩
theorem Ch.mono {S T : Nat → Prop} {a b : World} (h : Ch S a b) (k : ∀ i, i < a.heap.size → S i → T i) : Ch T a b :=
  ⟨h.os, h.tape, h.output, h.size, fun i hi hT => h.block i hi (fun hs => hT (k i hi hs))⟩
theorem Ch.drewN {S : Nat → Prop} {a b : World} (h : Ch S a b) (n : Nat) : Ch S a (b.drewN n) := ⟨h.os, h.tape, h.output, h.size, h.block⟩
theorem Ch.drew {S : Nat → Prop} {a b : World} (h : Ch S a b) : Ch S a b.drew := ⟨h.os, h.tape, h.output, h.size, h.block⟩
theorem Ch.alloc {S : Nat → Prop} {a b : World} (h : Ch S a b) (c : Array Value) (t : TypeId) : Ch S a (b.alloc (.cells c t)) :=
  ⟨h.os, h.tape, h.output, Nat.le_trans h.size (by simp), fun i hi hS => (Below.heap_alloc _ _ _ (Nat.lt_of_lt_of_le hi h.size)).trans (h.block i hi hS)⟩
theorem Ch.allocO {S : Nat → Prop} {a b : World} (h : Ch S a b) (o : Obj) : Ch S a (b.alloc o) :=
  ⟨h.os, h.tape, h.output, Nat.le_trans h.size (by simp), fun i hi hS => (Below.heap_alloc _ _ _ (Nat.lt_of_lt_of_le hi h.size)).trans (h.block i hi hS)⟩
theorem Ch.setCell {S : Nat → Prop} {a b : World} (h : Ch S a b) {p : Addr} (hp : S p.block ∨ a.heap.size ≤ p.block) (v : Value) : Ch S a (b.setCell p v) :=
  ⟨h.os, h.tape, h.output, by simpa [World.setCell] using h.size, fun i hi hS => (Below.heap_setCell b p v i (by
    rintro rfl
    rcases hp with hp | hp
    · exact hS hp
    · omega)).trans (h.block i hi hS)⟩
theorem Ch.setRow {S : Nat → Prop} {a b : World} (h : Ch S a b) {g : Nat} (hp : S g ∨ a.heap.size ≤ g) (cs : Array Value) : Ch S a (b.setRow g cs) :=
  ⟨h.os, h.tape, h.output, by simpa using h.size, fun i hi hS => (setRow_other b g i cs (by
    rintro rfl
    rcases hp with hp | hp
    · exact hS hp
    · omega)).trans (h.block i hi hS)⟩
theorem Ch.below {a b : World} (h : Ch (fun _ => False) a b) : Below a.heap.size a b := ⟨h.os, h.tape, h.output, h.size, fun i hi => h.block i hi (fun f => f)⟩
theorem Below.ch {a b : World} (h : Below a.heap.size a b) (S : Nat → Prop) : Ch S a b := ⟨h.os, h.tape, h.output, h.size, fun i hi _ => h.block i hi⟩
theorem Ch.grown {S : Nat → Prop} {a b c : World} {row : Option Nat} (h : Ch S a b) (k : b.grownBy c row) (hr : ∀ i, row = some i → S i ∨ a.heap.size ≤ i) : Ch S a c :=
  ⟨k.os.trans h.os, k.tape.trans h.tape, k.output.trans h.output, Nat.le_trans h.size k.size, fun i hi hS => (k.block i (Nat.lt_of_lt_of_le hi h.size) (fun e => by
    rcases hr i e.symm with q | q
    · exact hS q
    · omega)).trans (h.block i hi hS)⟩
theorem Ch.cell {S : Nat → Prop} {a b : World} (h : Ch S a b) {p : Addr} {v : Value} (hc : a.cell? p = some v) (hS : ¬ S p.block) : b.cell? p = some v :=
  (World.cell?_of_block (h.block p.block (World.block_lt_of_cell? _ _ hc) hS)).trans hc
theorem Ch.rowIs {S : Nat → Prop} {a b : World} (h : Ch S a b) {g : Nat} {t : TypeId} {n : Nat} {f : Nat → Value} (r : a.rowIs g t n f) (hS : ¬ S g) : b.rowIs g t n f :=
  r.of_block (h.block g r.lt hS)
/-- What is done tto blocks of its own turns nothing that was there. -/
theorem Ch.new {a b c : World} (h : Ch (fun _ => False) a b) (k : Ch (fun j => a.heap.size ≤ j) b c) : Ch (fun _ => False) a c :=
  ⟨k.os.trans h.os, k.tape.trans h.tape, k.output.trans h.output, Nat.le_trans h.size k.size, fun i hi hS => (k.block i (Nat.lt_of_lt_of_le hi h.size) (fun (e : a.heap.size ≤ i) => by omega)).trans (h.block i hi hS)⟩
/-- The answer of a law. -/
def Told (w : World) (e : Ending) (w' : World) : Prop := e = .returned (.bool true) ∧ Ch (fun _ => False) w w'
/-- An answer, and nothing old has turned. -/
def Ans (v : Value) (w : World) (e : Ending) (w' : World) : Prop := e = .returned v ∧ Ch (fun _ => False) w w'
/-- An answer, and the world has but drawn. -/
def Qu (v : Value) (w : World) (e : Ending) (w' : World) : Prop := e = .returned v ∧ ∃ n, w' = w.drewN n
theorem Qu.at {P : Program} {f : FuncId} {args : Array Value} {w : World} {k : Nat} {v : Value} (h : Calls P f args (w.drewN k) (Qu v (w.drewN k))) :
    Calls P f args (w.drewN k) fun e w' => e = .returned v ∧ ∃ m, w' = w.drewN m :=
  h.mono fun _ _ ⟨he, m, hm⟩ => ⟨he, k + m, by rw [hm, World.drewN_drewN]⟩

/-! ### rows of one's own -/
theorem ownsRow_ch {w w' : World} {base : Nat} {e : TypeId} {v : Value} {n : Nat} {xs : List Value} (h : w.ownsRow base e 1 v n xs) (k : Ch (fun _ => False) w w') : w'.ownsRow base e 1 v n xs := by
  refine ⟨h.1, ?_⟩
  rcases h.2 with hn | ⟨g, cap, cur, rfl, hb, hgg, rest⟩
  · exact Or.inl hn
  · exact Or.inr ⟨g, cap, cur, rfl, hb, (k.block g (Array.getElem?_eq_some_iff.1 hgg).1 (fun f => f)).trans hgg, rest⟩
theorem ownsRow_low {w : World} {base base2 : Nat} {e : TypeId} {v : Value} {n : Nat} {xs : List Value} (h : w.ownsRow base e 1 v n xs) (hb : base2 ≤ base) : w.ownsRow base2 e 1 v n xs := by
  refine ⟨h.1, ?_⟩
  rcases h.2 with hn | ⟨g, cap, cur, rfl, hb2, rest⟩
  · exact Or.inl hn
  · exact Or.inr ⟨g, cap, cur, rfl, Nat.le_trans hb hb2, rest⟩
theorem rowIs_owns {w : World} {b t m base : Nat} {f : Nat → Value} (h : w.rowIs b t m f) (hb : base ≤ b) (hm : m ≤ maxLen) : w.ownsRow base t 1 (.slice (some ⟨b, 0, none⟩) m m) m ((List.range m).map f) := by
  obtain ⟨c, hc, hs, hf⟩ := h
  refine ⟨by simp, Or.inr ⟨b, m, c, rfl, hb, hc, Nat.le_refl _, hm, by omega, ?_⟩⟩
  refine List.ext_getElem? fun i => ?_
  rw [Nat.mul_one, List.getElem?_take]
  by_cases hi : i < m
  · rw [if_pos hi, Array.getElem?_toList, hf i hi]; simp [hi]
  · rw [if_neg hi, List.getElem?_eq_none (by simp; omega)]

#print axioms rowIs_owns
end Go.Proofs.Ytkpahhioiefcbaa
namespace Go.Proofs.Ytkpahhioiefcbaa
open Go.RowKit
set_option linter.unusedVariables false
set_option maxRecDepth 100000

theorem Try.info5 : (Try.prog.info? 5).map (fun i => (i.zero, i.size, i.bytes)) = some (some (.int .u8 0), 1, 1) := by kernel_rfl
theorem size_byte : (Try.prog.info? 5).map (·.size) = some 1 := by kernel_rfl

/-! ### a row, tto be read -/
def Bytes (m : Nat) (z : Nat → Nat) : Prop := ∀ c, c < m → z c < 256
def RowV (w : World) (v : Value) (l : Nat) (z : Nat → Nat) : Prop :=
  ∃ (A : Option Addr) (C : Nat), v = .slice A l C ∧ (l ≤ 140737488351232 ∧ l ≤ C) ∧ (0 < l → ∃ b o, A = some ⟨b, o, none⟩ ∧ ∀ c, c < l → w.cell? ⟨b, o + c, none⟩ = some (.int .u8 (z c : Int)) ∧ z c < 256)
theorem RowV.ch {S : Nat → Prop} {w w' : World} {v : Value} {l : Nat} {z : Nat → Nat} (h : RowV w v l z) (k : Ch S w w') (hS : ∀ i, i < w.heap.size → ¬ S i) : RowV w' v l z := by
  obtain ⟨A, C, h1, h2, h3⟩ := h
  refine ⟨A, C, h1, h2, fun hl => ?_⟩
  obtain ⟨b, o, hA, hc⟩ := h3 hl
  exact ⟨b, o, hA, fun c hcl => ⟨k.cell (hc c hcl).1 (hS _ (World.block_lt_of_cell? _ _ (hc c hcl).1)), (hc c hcl).2⟩⟩
theorem RowV.gr {w w' : World} {v : Value} {l : Nat} {z : Nat → Nat} (h : RowV w v l z) (k : Ch (fun _ => False) w w') : RowV w' v l z := h.ch k (fun _ _ f => f)
theorem RowV.drewN {w : World} {v : Value} {l : Nat} {z : Nat → Nat} (h : RowV w v l z) (k : Nat) : RowV (w.drewN k) v l z := h.gr ((Ch.refl _ _).drewN k)
theorem RowV.congr {w : World} {v : Value} {l : Nat} {z y : Nat → Nat} (h : RowV w v l z) (e : ∀ c, c < l → z c = y c) : RowV w v l y := by
  obtain ⟨A, C, h1, h2, h3⟩ := h
  refine ⟨A, C, h1, h2, fun hl => ?_⟩
  obtain ⟨b, o, hA, hc⟩ := h3 hl
  exact ⟨b, o, hA, fun c hcl => by rw [← e c hcl]; exact hc c hcl⟩
theorem RowV.bytes {w : World} {v : Value} {l : Nat} {z : Nat → Nat} (h : RowV w v l z) : Bytes l z := fun c hc => by
  obtain ⟨A, C, _, _, h3⟩ := h
  obtain ⟨b, o, _, h4⟩ := h3 (by omega)
  exact (h4 c hc).2
theorem nil_row (w : World) (z : Nat → Nat) : RowV w (.slice none 0 0) 0 z := ⟨none, 0, rfl, by omega, fun h => absurd h (Nat.lt_irrefl 0)⟩
/-- The first k bytes. -/
theorem row_front {w : World} {A : Option Addr} {n C k : Nat} {z : Nat → Nat} (h : RowV w (.slice A n C) n z) (hk : k ≤ n) : RowV w (.slice A k C) k z := by
  obtain ⟨A', C', e, hn, h3⟩ := h
  injection e with e1 e2 e3
  subst e1
  refine ⟨_, _, rfl, by omega, fun h0 => ?_⟩
  obtain ⟨b', o', rfl, h4⟩ := h3 (by omega)
  exact ⟨_, _, rfl, fun r hr => h4 r (by omega)⟩
/-- The bytes from k on. -/
theorem row_tail {w : World} {b o n C k : Nat} {z : Nat → Nat} (h : RowV w (.slice (some ⟨b, o, none⟩) n C) n z) (hk : k ≤ n) : RowV w (.slice (some ⟨b, o + k, none⟩) (n - k) (C - k)) (n - k) (fun i => z (k + i)) := by
  obtain ⟨A', C', e, hn, h3⟩ := h
  injection e with e1 e2 e3
  subst e1
  refine ⟨_, _, rfl, by omega, fun h0 => ?_⟩
  obtain ⟨b', o', e4, h4⟩ := h3 (by omega)
  injection e4 with e5
  injection e5 with e6 e7
  subst e6
  subst e7
  exact ⟨_, _, rfl, fun r hr => by rw [Nat.add_assoc]; exact h4 (k + r) (by omega)⟩

/-! ### a row of one's own -/
def bytesL (k : Nat) (z : Nat → Nat) : List Value := (List.range k).map fun c => Value.int .u8 (z c : Int)
theorem bytesL_len (k : Nat) (z : Nat → Nat) : (bytesL k z).length = k := by unfold bytesL; simp
theorem bytesL_get {k c : Nat} {z : Nat → Nat} (h : c < k) : (bytesL k z)[c]? = some (.int .u8 (z c : Int)) := by unfold bytesL; simp [h]
theorem bytesL_none {k c : Nat} {z : Nat → Nat} (h : ¬ c < k) : (bytesL k z)[c]? = none := List.getElem?_eq_none (by rw [bytesL_len]; omega)
theorem bytesL_one {k : Nat} {z : Nat → Nat} : ∀ u ∈ bytesL k z, u.oneCell' = true := fun u hu => by
  unfold bytesL at hu; obtain ⟨c, _, rfl⟩ := List.mem_map.1 hu; rfl
theorem bytesL_snoc (k : Nat) (z : Nat → Nat) : bytesL (k + 1) z = bytesL k z ++ [Value.int .u8 (z k : Int)] := by unfold bytesL; rw [List.range_succ, List.map_append]; rfl
theorem bytesL_congr {k : Nat} {z y : Nat → Nat} (h : ∀ c, c < k → z c = y c) : bytesL k z = bytesL k y := List.map_congr_left fun c hc => by rw [h c (List.mem_range.1 hc)]
/-- Two, one behind the other. -/
def jnZ (k : Nat) (z y : Nat → Nat) (c : Nat) : Nat := if c < k then z c else y (c - k)
theorem jnZ_b {k m : Nat} {z y : Nat → Nat} (hz : Bytes k z) (hy : Bytes m y) : Bytes (k + m) (jnZ k z y) := fun c hc => by
  unfold jnZ; split
  · exact hz c (by assumption)
  · exact hy _ (by omega)
theorem bytesL_join (k m : Nat) (z y : Nat → Nat) : bytesL k z ++ bytesL m y = bytesL (k + m) (jnZ k z y) := by
  refine List.ext_getElem? fun c => ?_
  by_cases h : c < k
  · rw [List.getElem?_append_left (by rw [bytesL_len]; exact h), bytesL_get h, bytesL_get (by omega)]
    unfold jnZ; rw [if_pos h]
  · rw [List.getElem?_append_right (by rw [bytesL_len]; omega), bytesL_len]
    by_cases h2 : c < k + m
    · rw [bytesL_get (by omega), bytesL_get h2]
      unfold jnZ; rw [if_neg h]
    · rw [bytesL_none (by omega), bytesL_none h2]
theorem bytesL_set {k j x : Nat} {z : Nat → Nat} : (bytesL k z).set j (.int .u8 (x : Int)) = bytesL k (fun c => if c = j then x else z c) := by
  refine List.ext_getElem? fun c => ?_
  rw [List.getElem?_set, bytesL_len]
  by_cases e : j = c
  · subst e
    by_cases h : j < k
    · rw [if_pos rfl, if_pos h, bytesL_get h, if_pos rfl]
    · rw [if_pos rfl, if_neg h, bytesL_none h]
  · rw [if_neg e]
    by_cases h : c < k
    · rw [bytesL_get h, bytesL_get h, if_neg (fun q => e q.symm)]
    · rw [bytesL_none h, bytesL_none h]
theorem ownsRow_rowV {w : World} {base k : Nat} {v : Value} {z : Nat → Nat} (h : w.ownsRow base /-t-/5 1 v k (bytesL k z)) (hk : k ≤ 140737488351232) (hz : Bytes k z) : RowV w v k z := by
  rcases h.2 with ⟨rfl, h0⟩ | ⟨g, cap, cur, rfl, hb, hgg, hcap, hm, hs, ht⟩
  · subst h0; exact ⟨none, 0, rfl, ⟨hk, Nat.le_refl _⟩, fun h => absurd h (Nat.lt_irrefl 0)⟩
  · refine ⟨_, _, rfl, ⟨hk, hcap⟩, fun _ => ⟨g, 0, rfl, fun c hc => ⟨?_, hz c hc⟩⟩⟩
    have := World.ownsRow.cells h (g := g) rfl c (Value.int .u8 (z c : Int)) (bytesL_get hc)
    rwa [add_pl] at this
/-! ### append of bytes -/
theorem append_nil_nil (w : World) (ty : TypeId) (c : Nat) : (Builtin.append_ #[ /-t-/22, /-t-/22] ty #[.slice none 0 0, .slice none 0 c]).run Try.prog w = .ok (.slice none 0 0) w := by
  obtain ⟨j0, gi, gz0, gz1, gz2⟩ := info_parts Try.info5
  simp [Builtin.append_, run_underlying Try.underlying22, sizeOf, typeInfo, gi, Builtin.lenOf, Builtin.firstCells]
theorem append_none (w : World) (A : Option Addr) (n C c : Nat) (hA : A = none → n = 0 ∧ C = 0) (hn : n ≤ C) (ty : TypeId) : (Builtin.append_ #[ /-t-/22, /-t-/22] ty #[.slice A n C, .slice none 0 c]).run Try.prog w = .ok (.slice A n C) w := by
  obtain ⟨i0, hi, hz0, hz1, hz2⟩ := info_parts Try.info5
  cases A with
  | none =>
    obtain ⟨rfl, rfl⟩ := hA rfl
    simp [Builtin.append_, run_underlying Try.underlying22, sizeOf, typeInfo, hi, Builtin.lenOf, Builtin.firstCells]
  | some a =>
    simp [Builtin.append_, run_underlying Try.underlying22, sizeOf, typeInfo, hi, Builtin.lenOf, Builtin.firstCells, storeCells, hn]
/-- Bytes that are read, behind a row of one's own. -/
theorem app_row {base k l : Nat} {w : World} {v x : Value} {z y : Nat → Nat} (ho : w.ownsRow base /-t-/5 1 v k (bytesL k z)) (hb : base ≤ w.heap.size) (h : RowV w x l y) (hk : k + l ≤ 1048576) :
    ∃ v' w', (Builtin.append_ #[ /-t-/22, /-t-/22] /-t-/22 #[v, x]).run Try.prog w = .ok v' w' ∧ w'.ownsRow base /-t-/5 1 v' (k + l) (bytesL (k + l) (jnZ k z y)) ∧ w.grownBy w' v.ownBlock ∧ (v'.ownBlock = v.ownBlock ∨ v'.ownBlock = some w.heap.size) := by
  obtain ⟨A, C, rfl, hb2, hc⟩ := h
  obtain ⟨j0, gi, gz0, gz1, gz2⟩ := info_parts Try.info5
  cases A with
  | none =>
    have h0 : l = 0 := by
      by_cases q : 0 < l
      · obtain ⟨b, o, e, _⟩ := hc q; cases e
      · omega
    subst h0
    have e : bytesL (k + 0) (jnZ k z y) = bytesL k z := bytesL_congr fun c (hc : c < k) => by unfold jnZ; rw [if_pos hc]
    refine ⟨v, w, ?_, by rw [e]; exact ho, ⟨rfl, rfl, rfl, Nat.le_refl _, fun _ _ _ => rfl⟩, Or.inl rfl⟩
    rcases ho.2 with ⟨rfl, h0⟩ | ⟨g, cap, cur, rfl, _, _, hcap, _⟩
    · exact append_nil_nil w _ C
    · exact append_none w _ k cap C (fun e => by cases e) hcap _
  | some ad =>
    have hcells : ∀ j u, (bytesL l y)[j]? = some u → w.cell? (ad.add j) = some u := fun j u hu => by
      by_cases q : j < l
      · obtain ⟨b, o, e, h2⟩ := hc (by omega)
        injection e with e
        subst e
        rw [add_pl, (h2 j q).1]
        rw [bytesL_get q] at hu
        exact hu
      · rw [bytesL_none q] at hu
        cases hu
    obtain ⟨v', w', hr, h2, h3, _, h5⟩ := run_append_own_at (P := Try.prog) w base /-t-/22 /-t-/22 /-t-/5 j0 (.int .u8 0) 1 1 Try.underlying22 gi gz0 gz1 gz2 rfl (by decide) v k (bytesL k z) ho ad l C (bytesL l y) (by rw [bytesL_len, Nat.mul_one]) hcells
      bytesL_one (by unfold maxLen; omega) (by omega) hb
    rw [bytesL_join] at h2
    exact ⟨v', w', hr, h2, h3, h5⟩
/-- A copy. -/
theorem app_copy {w : World} {x : Value} {l : Nat} {z : Nat → Nat} (h : RowV w x l z) (hl : l ≤ 1048576) : ∃ v' w', (Builtin.append_ #[ /-t-/22, /-t-/22] /-t-/22 #[.slice none 0 0, x]).run Try.prog w = .ok v' w' ∧ w'.ownsRow w.heap.size /-t-/5 1 v' l (bytesL l z) ∧ Ch (fun _ => False) w w' := by
  obtain ⟨v', w', h1, h2, h3, _⟩ := app_row (z := z) (World.ownsRow_nil w w.heap.size /-t-/5 1) (Nat.le_refl _) h (by omega)
  rw [Nat.zero_add, bytesL_congr (y := z) fun c hc => by unfold jnZ; rw [if_neg (by omega)]; rfl] at h2
  exact ⟨v', w', h1, h2, (Ch.refl _ w).grown h3 (fun i hi => by cases hi)⟩
theorem wpList_app_of {ops : Array Oper} {rest : List Oper} {o : Oper} {a : Act} {Q : Exit → Act → World → Prop} (w : World) (hgd : o.guard = none) (s x : Operand)
    (ho : o.op = .call { callee := .builtin .append, args := #[s, x], argTypes := #[ /-t-/22, /-t-/22] }) (hty : o.type = /-t-/22) (sv xv v' : Value) (w' : World) (hs : a.eval s = sv) (hx : a.eval x = xv)
    (hrun : (Builtin.append_ #[ /-t-/22, /-t-/22] /-t-/22 #[sv, xv]).run Try.prog w = .ok v' w') (h : wpList Try.prog ops Q rest (a.put o.dst v') w') : wpList Try.prog ops Q (o :: rest) a w := by
  refine wpList_plain hgd fun _ hK => ?_
  unfold Oper.wp execOp
  simp only [ho, hty, resolve, invoke, builtin, Sem.run_bind, Sem.run_pure, Result.andThen_ok, List.map_toArray, List.map_cons, List.map_nil, hs, hx, hrun]
  exact hK _ _ h
/-- copy, by its run. -/
theorem wpList_cpy_of {ops : Array Oper} {rest : List Oper} {o : Oper} {a : Act} {Q : Exit → Act → World → Prop} (w : World) (hgd : o.guard = none) (s x : Operand)
    (ho : o.op = .call { callee := .builtin .copy, args := #[s, x], argTypes := #[ /-t-/22, /-t-/22] }) (sv xv v' : Value) (w' : World) (hs : a.eval s = sv) (hx : a.eval x = xv)
    (hrun : ∀ ty, (Builtin.copy_ #[ /-t-/22, /-t-/22] ty #[sv, xv]).run Try.prog w = .ok v' w') (h : wpList Try.prog ops Q rest (a.put o.dst v') w') : wpList Try.prog ops Q (o :: rest) a w := by
  refine wpList_plain hgd fun _ hK => ?_
  unfold Oper.wp execOp
  simp only [ho, resolve, invoke, builtin, Sem.run_bind, Sem.run_pure, Result.andThen_ok, List.map_toArray, List.map_cons, List.map_nil, hs, hx, hrun]
  exact hK _ _ h

/-! ### rows as strings -/
def textOf (l : Nat) (z : Nat → Nat) : ByteArray := strOfNums ((List.range l).map fun c => (z c : Int))
theorem row_text {w : World} {v : Value} {l : Nat} {z : Nat → Nat} (h : RowV w v l z) : (convert /-t-/22 /-t-/9 v).run Try.prog w = .ok (.string (textOf l z)) w := by
  obtain ⟨A, C, rfl, hn, h3⟩ := h
  cases A with
  | none =>
    have h0 : l = 0 := by
      by_cases q : 0 < l
      · obtain ⟨b, o, e, _⟩ := h3 q; cases e
      · omega
    subst h0
    exact run_convert_bytes_nil w /-t-/22 /-t-/5 Try.underlying22 Try.underlying5 0 C /-t-/9 Try.underlying9
  | some ad =>
    by_cases h0 : 0 < l
    · obtain ⟨b, o, e, h4⟩ := h3 h0
      injection e with e
      subst e
      exact run_convert_bytes_arg w /-t-/22 /-t-/5 Try.underlying22 Try.underlying5 b o l C _ (by simp) (fun i hi => by
        have := (h4 i hi).1
        rw [show ((List.range l).map fun c => (z c : Int)).getD i 0 = (z i : Int) by simp [List.getD, hi]]
        exact this) /-t-/9 Try.underlying9
    · obtain rfl : l = 0 := by omega
      obtain ⟨b, o, s⟩ := ad
      rw [run_convert_bytes_string w /-t-/22 /-t-/9 /-t-/5 _ 0 C Try.underlying22 Try.underlying5 Try.underlying9, run_bytesToString w _ 0 C [] (by simp [loadCells, loadCellsFrom]), foldl_push_bytes]
      rfl
theorem text_inj {l m : Nat} {z y : Nat → Nat} (hz : Bytes l z) (hy : Bytes m y) : textOf l z = textOf m y ↔ l = m ∧ ∀ c, c < l → z c = y c := by
  constructor
  · intro h
    have h1 : ((List.range l).map fun c => (z c : Int)).map (fun n => UInt8.ofNat n.toNat) = ((List.range m).map fun c => (y c : Int)).map (fun n => UInt8.ofNat n.toNat) := by
      have := congrArg (fun s : ByteArray => s.data.toList) h
      exact this
    have hl : l = m := by simpa using congrArg List.length h1
    subst hl
    refine ⟨rfl, fun c hc => ?_⟩
    have h2 := congrArg (fun x : List UInt8 => x[c]?) h1
    simp [hc] at h2
    have h3 := congrArg UInt8.toNat h2
    simp [UInt8.toNat_ofNat'] at h3
    have := hz c hc
    have := hy c hc
    omega
  · rintro ⟨rfl, h⟩
    unfold textOf
    rw [List.map_congr_left fun c hc => by rw [h c (List.mem_range.1 hc)]]
#print axioms app_copy
#print axioms text_inj
end Go.Proofs.Ytkpahhioiefcbaa
namespace Go.Proofs.Ytkpahhioiefcbaa
open Go.ChangeShapes Go.WideShapes Go.ChangeAt Go.RowKit Go.Deep
set_option linter.unusedVariables false
set_option maxRecDepth 100000

theorem b8 {a : Int} (h : (Lit.int .u8 a).wf = true) : 0 ≤ a ∧ a < 256 := by have := bounds_u8 h; omega
theorem b64 {a : Int} (h : (Lit.int .i64 a).wf = true) : -9223372036854775808 ≤ a ∧ a ≤ 9223372036854775807 := by have := bounds_i64 h; omega
theorem own : ownKnob Try.prog.godebug = none := by kernel_rfl
theorem laidOut : laidOutB Try.prog = true := by kernel_rfl
theorem reach_eq : reachBytes = 140737488351232 := rfl

section
variable {H : Type} {enc : TypeId × Value → H} {P : Program}
/-- The row's last step where the world is known by 'Below' alone. -/
theorem post_below {f : Func} {s : ChangeSpec} {apart fresh handsOn again : Bool} {W W' : World} {args : Array Value} {v : Value} {ds gs : List (DataW H)} {before pa pv : List MemPlace}
    (hW : DataW.Whole enc P f.params.toList s.vars apart W args.toList ds gs before)
    (hres : ∀ (b : Nat) (sp : Nat → Bool) (hd : Bool), DataW.TrodAll enc P W' b sp hd f.resultTypes.toList (v.resultList f.resultTypes.size) (s.fn H (ds ++ gs)).results [])
    (hargs : ∀ sp : Nat → Bool, (∀ p ∈ before, sp p.block = true) → DataW.TrodAll enc P W' 0 sp true f.params.toList args.toList (s.fn H (ds ++ gs)).args pa)
    (hvars : ∀ sp : Nat → Bool, (∀ p ∈ before, sp p.block = true) → DataW.TrodVars enc P W' sp s.vars (s.fn H (ds ++ gs)).vars pv)
    (hps : before = pa ++ pv) (hb : Below W.heap.size W W')
    (hok : ∀ (j : Nat) (t : TypeId) (r : Value), f.resultTypes[j]? = some t → (v.resultList f.resultTypes.size)[j]? = some r → Value.okWide P W' .any 0 t r) :
    s.post enc P f apart fresh handsOn again W args v W' := by
  have hlt : ∀ p ∈ before, p.block < W.heap.size := fun p hp => hW.lt p hp
  have hold : ∀ p ∈ before, (fun b => decide (b < W.heap.size)) p.block = true := fun p hp => by simpa using hlt p hp
  refine ⟨ds, gs, before, [], pa, pv, hW, hres _ _ _, hargs _ hold, hvars _ hold, World.keptBut_mono (fun p hp => ⟨hp, ?_⟩) (hb.frame (· ∈ before)), fun _ => ?_⟩
  · rw [hps, List.mem_append] at hp
    exact Or.inr hp
  · obtain ⟨_, _, _, _, _, hz, hn⟩ := hW
    refine ⟨hok, _, _, ([] ++ pa) ++ pv, ⟨[] ++ pa, pv, trodAll_append (hargs _ (fun _ _ => rfl)) (hres _ _ _), hvars _ (fun _ _ => rfl), rfl, ?_, ?_⟩, ?_⟩
    · intro b off hp
      have hin : MemPlace.cell b off ∈ before := by rw [hps]; simpa using hp
      rw [hb.frozen (hlt _ hin)]
      exact hz b off hin
    · intro ha
      have := hn ha
      rw [hps] at this
      simpa using this
    · intro p hp _
      rw [hps]
      simpa using hp
/-- An argument reads as it did. -/
theorem arg_stays {t : TypeId} (hl : laidOutB P = true) (hr : P.readableRec t = true) (hrow : t < P.types.size) {W W' : World} {v : Value} {d : DataW H} {ps : List MemPlace} {sp : Nat → Bool}
    (h : DataW.Trod enc P W 0 (fun _ => true) true t v d ps) (hb : Below W.heap.size W W') (hlt : ∀ x ∈ ps, x.block < W.heap.size) (hsp : ∀ x ∈ ps, sp x.block = true) : DataW.Trod enc P W' 0 sp true t v d ps :=
  WideElems.Trod_stays hl hr hrow h (fun x hx => hb.same (hlt x hx)) hsp
end

theorem addr_none {w : World} {a : Addr} {v : Value} (h : w.cell? (a.add 0) = some v) : ∃ b o, a = ⟨b, o, none⟩ := by
  obtain ⟨b, o, sp⟩ := a
  have : sp = none := by simpa [Addr.add] using World.cell?_spot h
  exact ⟨b, o, by rw [this]⟩
theorem mapM_each {H : Type} {enc : TypeId × Value → H} {P : Program} {W : World} {e : TypeId} {q : IntKind} (he : P.underlying e = some (.int q)) {m : Nat} {cs : List Value} {c base : Nat} {sp : Nat → Bool} {held : Bool} : ∀ (L : List Nat) (xs : List (DataW H × List MemPlace)),
    L.mapM (fun i => DataW.trod enc P W base sp held m e ((cs.drop (i * c)).take c)) = some xs → ∀ i ∈ L, ∃ a : Int, (cs.drop (i * c)).take c = [.int q a] ∧ (Lit.int q a).wf = true
  | [], _, _, i, hi => by cases hi
  | j :: L, xs, h, i, hi => by
    rw [List.mapM_cons] at h
    simp only [bind, Option.bind_eq_some_iff, pure, Option.some.injEq] at h
    obtain ⟨y, hy, ys, hys, rfl⟩ := h
    rcases List.mem_cons.1 hi with rfl | hi
    · obtain ⟨a, ea, _, wa⟩ := DataW.trod_int he hy
      exact ⟨a, ea, wa⟩
    · exact mapM_each he L ys hys i hi
#print axioms post_below
end Go.Proofs.Ytkpahhioiefcbaa
namespace Go.Proofs.Ytkpahhioiefcbaa
open Go.ChangeShapes Go.WideShapes Go.ChangeAt Go.RowKit Go.Deep
set_option linter.unusedVariables false
set_option maxRecDepth 100000

theorem cells5 : Try.prog.cellsOf 5 = 1 := by kernel_rfl
theorem bytes5 : Try.prog.bytesOf 5 = 1 := by kernel_rfl
/-- Bytes that are handed in. -/
theorem open_row {H : Type} {enc : TypeId × Value → H} {W : World} {v : Value} {d : DataW H} {p : List MemPlace} (hv : ∃ a len cap, v = .slice a len cap) (h : DataW.Trod enc Try.prog W 0 (fun _ => true) true /-t-/22 v d p)
    (s1 : ∀ elems spare, d = .slice elems spare → (elems.length + spare.length) * 1 ≤ reachBytes) : ∃ n z, RowV W v n z := by
  obtain ⟨a0, len, cap, rfl⟩ := hv
  obtain ⟨fuel, hf⟩ := h
  rcases open_ints Try.underlying22 Try.underlying5 cells5 hf with ⟨hcs0, hx⟩ | ⟨a, len', cap', zs, hcs0, _, hl, hm, hzl, hx, hcell, hwf⟩
  · simp [Value.cells] at hcs0
    obtain ⟨rfl, rfl, rfl⟩ := hcs0
    exact ⟨0, fun _ => 0, nil_row _ _⟩
  · simp [Value.cells] at hcs0
    obtain ⟨rfl, rfl, rfl⟩ := hcs0
    simp only [Prod.mk.injEq] at hx
    obtain ⟨rfl, rfl⟩ := hx
    simp only [if_true] at hzl
    have hlen := s1 _ _ rfl
    simp only [lits, List.length_map, List.length_take, List.length_drop, hzl, reach_eq] at hlen
    refine ⟨len, fun c => (zs.getD c 0).toNat, some a, cap, rfl, by omega, fun h0 => ?_⟩
    obtain ⟨b, o, rfl⟩ := addr_none (hcell 0 (by omega))
    refine ⟨b, o, rfl, fun c hc => ?_⟩
    have hcc := hcell c (by omega)
    rw [add_pl] at hcc
    have hb := b8 (hwf (zs.getD c 0) (by
      rw [List.getD, List.getElem?_eq_getElem (show c < zs.length by omega)]
      exact List.getElem_mem _))
    have e : (((zs.getD c 0).toNat : Nat) : Int) = zs.getD c 0 := by omega
    exact ⟨by show _ = some (Value.int .u8 (((zs.getD c 0).toNat : Nat) : Int)); rw [e]; exact hcc, by show (zs.getD c 0).toNat < 256; omega⟩
theorem row_of {H : Type} {enc : TypeId × Value → H} {W : World} {v : Value} {x : DataW H × List MemPlace} {fuel : Nat} (h : DataW.trod enc Try.prog W 0 (fun _ => true) true fuel /-t-/22 [v] = some x)
    (s1 : ∀ elems spare, x.1 = .slice elems spare → (elems.length + spare.length) * 1 ≤ reachBytes) : ∃ n z, RowV W v n z := by
  have hv : ∃ a len cap, v = .slice a len cap := by
    rcases open_ints Try.underlying22 Try.underlying5 cells5 h with ⟨hcs0, _⟩ | ⟨a, len', cap', zs, hcs0, _⟩
    · exact ⟨_, _, _, by simpa using hcs0⟩
    · exact ⟨_, _, _, by simpa using hcs0⟩
  obtain ⟨a, len, cap, rfl⟩ := hv
  exact open_row (d := x.1) (p := x.2) ⟨_, _, _, rfl⟩ ⟨fuel, h⟩ s1
/-! ### an array of bytes, by value -/
def arrV (n : Nat) (y : Nat → Nat) : Array Value := (bytesL n y).toArray
theorem open_bytes {H : Type} {enc : TypeId × Value → H} {W : World} {v : Value} {d : DataW H} {p : List MemPlace} {t : TypeId} {n b0 : Nat} {r : Reach} (hu : Try.prog.underlying t = some (.array n /-t-/5)) (hs : Try.prog.cellsOf t = n)
    (hv : Value.okWide Try.prog W r b0 t v) (h : DataW.Trod enc Try.prog W 0 (fun _ => true) true t v d p) : ∃ y, v = .agg (arrV n y) ∧ Bytes n y := by
  simp only [Value.okWide, hu] at hv
  obtain ⟨xs, rfl, h2, _⟩ := hv
  rw [hs] at h2
  obtain ⟨fuel, hf⟩ := h
  cases fuel with
  | zero => simp [DataW.trod] at hf
  | succ m =>
    rw [DataW.trod_step] at hf
    unfold DataW.trodStep at hf
    simp only [hu, Value.cells] at hf
    rw [if_pos (by rw [hs]; simpa using h2)] at hf
    simp only [Option.map_eq_some_iff] at hf
    obtain ⟨ys, hy, _⟩ := hf
    have each := mapM_each Try.underlying5 _ ys hy
    have hget : ∀ i, i < n → ∃ a : Int, xs[i]? = some (.int .u8 a) ∧ 0 ≤ a ∧ a < 256 := fun i hi => by
      obtain ⟨a, ea, wa⟩ := each i (List.mem_range.2 hi)
      rw [cells5, Nat.mul_one] at ea
      have e0 := congrArg (fun l : List Value => l[0]?) ea
      simp at e0
      exact ⟨a, e0, b8 wa⟩
    refine ⟨fun i => match xs[i]? with | some (.int _ a) => a.toNat | _ => 0, ?_, fun c hc => ?_⟩
    · congr 1
      refine Array.ext_getElem? fun i => ?_
      have e2 : ∀ f, (arrV n f)[i]? = (bytesL n f)[i]? := fun f => by unfold arrV; simp
      rw [e2]
      by_cases hi : i < n
      · obtain ⟨a, ha, h0, h1⟩ := hget i hi
        rw [bytesL_get hi, ha]
        simp only []
        rw [Int.toNat_of_nonneg h0]
      · rw [bytesL_none hi, Array.getElem?_eq_none (by omega)]
    · obtain ⟨a, ha, h0, h1⟩ := hget c hc
      simp only [ha]
      omega
#print axioms open_row
#print axioms open_bytes
end Go.Proofs.Ytkpahhioiefcbaa
