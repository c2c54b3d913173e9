/-
  Rows of writes ([]api.Put): to be read, and of one's own.
-/
import Derived.Test.YtjibfoplihaabaaMg21
namespace Go.Proofs.Ytjibfoplihaabaa
open Go.RowKit
set_option linter.unusedVariables false
set_option maxRecDepth 100000

/-! ### to be read -/
/-- A write at a place: its bytes lie in one of the blocks of X. -/
structure PutIs (w : World) (X : Nat → Prop) (b o : Nat) (sb so sC : Nat) (P : PutP) : Prop where
  c0 : w.cell? ⟨b, o, none⟩ = some (.int .i64 P.pl)
  c1 : w.cell? ⟨b, o + 1, none⟩ = some (.slice (some ⟨sb, so, none⟩) P.n sC)
  row : RowV w (.slice (some ⟨sb, so, none⟩) P.n sC) P.n P.z
  X : X sb
  lt : sb < w.heap.size
/-- n of them, in blocks of X. -/
def PutsV (w : World) (X : Nat → Prop) (A : Option Addr) (n : Nat) (f : Nat → PutP) : Prop :=
  n ≤ 140737488351232 ∧ (0 < n → ∃ b o, A = some ⟨b, o, none⟩ ∧ X b ∧ ∀ c, c < n → ∃ sb so sC, PutIs w X b (o + c * 2) sb so sC (f c))
theorem RowV.ch' {w w' : World} {S : Nat → Prop} {b o n C : Nat} {z : Nat → Nat} (h : RowV w (.slice (some ⟨b, o, none⟩) n C) n z) (k : Ch S w w') (hb : ¬ S b) : RowV w' (.slice (some ⟨b, o, none⟩) n C) n z := by
  obtain ⟨A1, c1, e1, g1, g2⟩ := h
  injection e1 with e1 _ e2
  subst e1
  subst e2
  refine ⟨_, _, rfl, g1, fun h0 => ?_⟩
  obtain ⟨b', o', e, g3⟩ := g2 h0
  have e' := e
  injection e' with e'
  injection e' with e1 e2
  subst e1
  subst e2
  exact ⟨_, _, rfl, fun j hj => ⟨k.cell (g3 j hj).1 hb, (g3 j hj).2⟩⟩
theorem PutIs.ch {w w' : World} {X S : Nat → Prop} {b o sb so sC : Nat} {P : PutP} (h : PutIs w X b o sb so sC P) (k : Ch S w w') (hb : X b) (hX : ∀ i, X i → ¬ S i) : PutIs w' X b o sb so sC P :=
  ⟨k.cell h.c0 (hX b hb), k.cell h.c1 (hX b hb), h.row.ch' k (hX sb h.X), h.X, Nat.lt_of_lt_of_le h.lt k.size⟩
theorem PutsV.ch {w w' : World} {X S : Nat → Prop} {A : Option Addr} {n : Nat} {f : Nat → PutP} (h : PutsV w X A n f) (k : Ch S w w') (hX : ∀ i, X i → ¬ S i) : PutsV w' X A n f := by
  refine ⟨h.1, fun h0 => ?_⟩
  obtain ⟨b, o, hA, hb, hc⟩ := h.2 h0
  refine ⟨b, o, hA, hb, fun c hcn => ?_⟩
  obtain ⟨sb, so, sC, hp⟩ := hc c hcn
  exact ⟨sb, so, sC, hp.ch k hb hX⟩
theorem PutsV.gr {w w' : World} {X : Nat → Prop} {A : Option Addr} {n : Nat} {f : Nat → PutP} (h : PutsV w X A n f) (k : Ch (fun _ => False) w w') : PutsV w' X A n f := h.ch k (fun _ _ x => x)
theorem load_put {w : World} {b o : Nat} {u v : Value} (h0 : w.cell? ⟨b, o, none⟩ = some u) (h1 : w.cell? ⟨b, o + 1, none⟩ = some v) : (loadVar 50 ⟨b, o, none⟩).run Try.prog w = .ok (.agg #[u, v]) w :=
  run_loadVar_mid w b o _ [u, v] _ (fun j x hj => by
    have hj2 : j < 2 := (List.getElem?_eq_some_iff.1 hj).1
    match j, hj2 with
    | 0, _ => exact h0.trans hj
    | 1, _ => exact h1.trans hj) Try.underlying50 rfl (show _ = some 2 by kernel_rfl)

/-! ### of one's own -/
def putC (P : PutP) (v : Value) : List Value := [.int .i64 P.pl, v]
theorem info_put : (Try.prog.info? 50).map (fun i => (i.zero, i.size, i.bytes)) = some (some (.agg #[.int .i64 0, .slice none 0 0]), 2, 32) := by kernel_rfl
theorem under_puts : Try.prog.underlying 31 = some (.slice 50) := by kernel_rfl
theorem slice_put (w : World) (a b : Value) : (Instr.buildSlice 31 1 #[(0, .agg #[a, b])]).run Try.prog w = .ok (.slice (some ⟨w.heap.size, 0, none⟩) 1 1) (w.alloc (.cells #[a, b] 50)) := by
  obtain ⟨i0, hi, hz0, hz1, hz2⟩ := info_parts info_put
  refine run_buildSlice (P := Try.prog) w _ _ 1 _ _ i0 _ under_puts hi hz0 (by rw [hz1]; omega) (by rw [hz1]; omega) ?_
  rw [hz1]
  exact fill_one _ _ 2 rfl (by simp) (by omega)
theorem wpList_appP {ops : Array Oper} {rest : List Oper} {o : Oper} {a : Act} {Q : Exit → Act → World → Prop} (w : World) (hgd : o.guard = none) (s x : Operand)
    (ho : o.op = .call { callee := .builtin .append, args := #[s, x], argTypes := #[ 31, 31] }) (hty : o.type = 31) (sv xv v' : Value) (w' : World) (hs : a.eval s = sv) (hx : a.eval x = xv)
    (hrun : (Builtin.append_ #[ 31, 31] 31 #[sv, xv]).run Try.prog w = .ok v' w') (h : wpList Try.prog ops Q rest (a.put o.dst v') w') : wpList Try.prog ops Q (o :: rest) a w := by
  refine wpList_plain hgd fun _ hK => ?_
  unfold Oper.wp execOp
  simp only [ho, hty, resolve, invoke, builtin, Sem.run_bind, Sem.run_pure, Result.andThen_ok, List.map_toArray, List.map_cons, List.map_nil, hs, hx, hrun]
  exact hK _ _ h
/-- The cells of k writes, whose bytes are s. -/
def putL (f : Nat → PutP) (s : Nat → Value) (k : Nat) : List Value := (List.range k).flatMap fun c => [.int .i64 (f c).pl, s c]
theorem putL_len (f : Nat → PutP) (s : Nat → Value) : ∀ k, (putL f s k).length = k * 2
  | 0 => rfl
  | k + 1 => by
    have ih := putL_len f s k
    unfold putL at ih ⊢
    rw [List.range_succ, List.flatMap_append, List.length_append, ih]
    simp
    omega
theorem putL_snoc (f : Nat → PutP) (s : Nat → Value) (k : Nat) : putL f s (k + 1) = putL f s k ++ [.int .i64 (f k).pl, s k] := by
  unfold putL
  rw [List.range_succ, List.flatMap_append]
  rfl
theorem putL_get {f : Nat → PutP} {s : Nat → Value} {k c : Nat} (h : c < k) : (putL f s k)[c * 2]? = some (.int .i64 (f c).pl) ∧ (putL f s k)[c * 2 + 1]? = some (s c) := by
  induction k with
  | zero => omega
  | succ k ih =>
    rw [putL_snoc]
    by_cases q : c < k
    · obtain ⟨h1, h2⟩ := ih q
      rw [List.getElem?_append_left (by rw [putL_len]; omega), List.getElem?_append_left (by rw [putL_len]; omega)]
      exact ⟨h1, h2⟩
    · obtain rfl : c = k := by omega
      rw [List.getElem?_append_right (by rw [putL_len]; omega), List.getElem?_append_right (by rw [putL_len]; omega), putL_len]
      simp
theorem putL_congr {f : Nat → PutP} {s s' : Nat → Value} {k : Nat} (h : ∀ c, c < k → s c = s' c) : putL f s k = putL f s' k := by
  induction k with
  | zero => rfl
  | succ k ih => rw [putL_snoc, putL_snoc, ih (fun c hc => h c (by omega)), h k (by omega)]
theorem putL_one {f : Nat → PutP} {s : Nat → Value} {k : Nat} (h : ∀ c, c < k → (s c).oneCell' = true) : ∀ u ∈ putL f s k, u.oneCell' = true := fun u hu => by
  unfold putL at hu
  obtain ⟨c, hc, hu⟩ := List.mem_flatMap.1 hu
  rcases List.mem_cons.1 hu with rfl | hu
  · rfl
  · rw [List.mem_singleton.1 hu]; exact h c (List.mem_range.1 hc)
/-- Bytes of one's own: a slice of a block of bytes, made behind w. -/
structure OwnB (w wr : World) (v : Value) (n : Nat) (z : Nat → Nat) (sb so sC : Nat) : Prop where
  eq : v = .slice (some ⟨sb, so, none⟩) n sC
  row : RowV wr (.slice (some ⟨sb, so, none⟩) n sC) n z
  blk : ∃ c, wr.heap[sb]? = some (.cells c /-t-/5 (0, 0))
  lo : w.heap.size ≤ sb
theorem OwnB.ch {S : Nat → Prop} {w wr w' : World} {v : Value} {n sb so sC : Nat} {z : Nat → Nat} (h : OwnB w wr v n z sb so sC) (k : Ch S wr w') (hS : ¬ S sb) : OwnB w w' v n z sb so sC := by
  obtain ⟨c, hc⟩ := h.blk
  exact ⟨h.eq, h.row.ch' k hS, ⟨c, (k.block sb (blk_lt hc) hS).trans hc⟩, h.lo⟩
theorem own_gr {w w' : World} {base : Nat} {e : TypeId} {sz : Nat} {v : Value} {n : Nat} {xs : List Value} (h : w.ownsRow base e sz v n xs) (k : Ch (fun _ => False) w w') : w'.ownsRow base e sz v n xs :=
  own_of h (fun i hi => by obtain ⟨_, c, hc⟩ := own_at h hi; exact k.block i (blk_lt hc) (fun f => f))
/-- k writes that a call has gathered since w, one behind the other. -/
structure PutsO (w wr : World) (v : Value) (k : Nat) (f : Nat → PutP) (s : Nat → Value) : Prop where
  own : wr.ownsRow w.heap.size 50 2 v k (putL f s k)
  rows : ∀ c, c < k → ∃ sb so sC, OwnB w wr (s c) (f c).n (f c).z sb so sC
  ch : Ch (fun _ => False) w wr
theorem PutsO.start (w : World) (f : Nat → PutP) (s : Nat → Value) : PutsO w w (.slice none 0 0) 0 f s := ⟨World.ownsRow_nil w w.heap.size _ 2, fun c hc => absurd hc (Nat.not_lt_zero c), Ch.refl _ w⟩
theorem PutsO.gr {w wr w' : World} {v : Value} {k : Nat} {f : Nat → PutP} {s : Nat → Value} (h : PutsO w wr v k f s) (c : Ch (fun _ => False) wr w') : PutsO w w' v k f s :=
  ⟨own_gr h.own c, fun i hi => by obtain ⟨sb, so, sC, q⟩ := h.rows i hi; exact ⟨sb, so, sC, q.ch c (fun f => f)⟩, h.ch.trans c⟩
theorem PutsO.len {w wr : World} {v : Value} {k : Nat} {f : Nat → PutP} {s : Nat → Value} (h : PutsO w wr v k f s) : ∃ A C, v = .slice A k C := by
  rcases h.own.2 with ⟨rfl, h0⟩ | ⟨g, cap, cur, rfl, _⟩
  · exact ⟨none, 0, by rw [h0]⟩
  · exact ⟨_, _, rfl⟩
theorem PutsO.app {w wr : World} {v : Value} {k sb so sC : Nat} {f : Nat → PutP} {s : Nat → Value} {u : Value} (h : PutsO w wr v k f s) (hu : OwnB w wr u (f k).n (f k).z sb so sC) (hk : k ≤ 1048576) :
    ∃ g cap w2, (Builtin.append_ #[ 31, 31] 31 #[v, .slice (some ⟨wr.heap.size, 0, none⟩) 1 1]).run Try.prog (wr.alloc (.cells #[.int .i64 (f k).pl, u] 50)) = .ok (.slice (some ⟨g, 0, none⟩) (k + 1) cap) w2 ∧ PutsO w w2 (.slice (some ⟨g, 0, none⟩) (k + 1) cap) (k + 1) f (up s k u) := by
  obtain ⟨i0, hi, hz0, hz1, hz2⟩ := info_parts info_put
  have k1 : Ch (fun _ => False) wr (wr.alloc (.cells #[.int .i64 (f k).pl, u] 50)) := (Ch.refl _ wr).alloc _ _
  have hu1 := hu.ch k1 (fun x => x)
  have one : u.oneCell' = true := by rw [hu.eq]; rfl
  have es : putL f s k = putL f (up s k u) k := putL_congr fun c hc => (up_other s u (by omega)).symm
  obtain ⟨g, cap, w2, hr, h2, h3, h4, _⟩ := run_append_lies (P := Try.prog) (wr.alloc (.cells #[.int .i64 (f k).pl, u] 50)) 31 31 w.heap.size 50 i0 _ 2 32 under_puts hi hz0 hz1 hz2 rfl (by omega) v k (putL f s k) (own_gr h.own k1) ⟨wr.heap.size, 0, none⟩ 1 1 [.int .i64 (f k).pl, u] rfl (fun j x hx => by
    rw [add_pl, blk_cell (heap_alloc_new wr _), Nat.zero_add]
    show ([Value.int .i64 (f k).pl, u].toArray)[j]? = some x
    rw [List.getElem?_toArray]
    exact hx) (fun x hx => by
      rcases List.mem_cons.1 hx with rfl | hx
      · rfl
      · rw [List.mem_singleton.1 hx]; exact one) (by omega) (by unfold maxLen; omega) (by omega) (Nat.le_trans h.ch.size k1.size) _ rfl
  have e2 : putL f s k ++ [.int .i64 (f k).pl, u] = putL f (up s k u) (k + 1) := by rw [putL_snoc, ← es, up_same]
  rw [e2] at h2
  have k2 : Ch (fun i => v.ownBlock = some i) (wr.alloc (.cells #[.int .i64 (f k).pl, u] 50)) w2 := (Ch.refl _ _).grown h3 (fun i hi => Or.inl hi)
  have off : ∀ i c, (wr.alloc (.cells #[.int .i64 (f k).pl, u] 50)).heap[i]? = some (.cells c /-t-/5 (0, 0)) → ¬ v.ownBlock = some i := fun i c hc e => by
    obtain ⟨_, c2, hc2⟩ := own_at (own_gr h.own k1) e
    exact cells_ne hc2 hc (by decide) rfl
  refine ⟨g, cap, w2, hr, h2, fun c hc => ?_, (h.ch.trans k1).new (k2.mono fun i _ hi => (own_at h.own hi).1)⟩
  by_cases q : c = k
  · subst q
    obtain ⟨cc, hcc⟩ := hu1.blk
    exact ⟨sb, so, sC, by rw [up_same]; exact hu1.ch k2 (off sb cc hcc)⟩
  · obtain ⟨b, o, C, r⟩ := h.rows c (by omega)
    have r1 := r.ch k1 (fun x => x)
    obtain ⟨cc, hcc⟩ := r1.blk
    exact ⟨b, o, C, by rw [up_other _ _ q]; exact r1.ch k2 (off b cc hcc)⟩
/-- They may be read. -/
theorem PutsO.read {w wr : World} {A : Option Addr} {C k : Nat} {f : Nat → PutP} {s : Nat → Value} (h : PutsO w wr (.slice A k C) k f s) (hk : k ≤ 140737488351232) : PutsV wr (fun i => w.heap.size ≤ i ∧ i < wr.heap.size) A k f := by
  refine ⟨hk, fun h0 => ?_⟩
  rcases h.own.2 with ⟨_, q⟩ | ⟨g, cap, cur, e, hb, hg, _⟩
  · omega
  · injection e with e _ _
    subst e
    refine ⟨g, 0, rfl, ⟨hb, blk_lt hg⟩, fun c hc => ?_⟩
    obtain ⟨sb, so, sC, r⟩ := h.rows c hc
    obtain ⟨cc, hcc⟩ := r.blk
    obtain ⟨g0, g1⟩ := putL_get (f := f) (s := s) hc
    have c0 := World.ownsRow.cells h.own (g := g) rfl _ _ g0
    have c1 := World.ownsRow.cells h.own (g := g) rfl _ _ g1
    rw [add_pl] at c0 c1
    exact ⟨sb, so, sC, c0, by rw [← r.eq]; exact c1, r.row, ⟨r.lo, blk_lt hcc⟩, blk_lt hcc⟩
#print axioms slice_put
#print axioms PutsO.app
#print axioms PutsO.read
end Go.Proofs.Ytjibfoplihaabaa
