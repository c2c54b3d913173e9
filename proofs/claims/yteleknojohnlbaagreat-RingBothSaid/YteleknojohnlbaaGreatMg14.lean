/-
  Rows of writes ([]api.Put): to be read, and of one's own. The sum of chapter 4 in plain numbers: its step is linear and loses nothing, so a run of up to four bytes that are changed is never lost. Bytes that are written out in the program (a row of consts in new memory), read.
-/
import Derived.Test.YteleknojohnlbaaGreatMg13
import Derived.Test.YteleknojohnlbaaGreatProg
import Derived.Test.YteleknojohnlbaaGreatMg1
namespace Go.Proofs.YteleknojohnlbaaGreat
open Go.RowKit
set_option linter.unusedVariables false
set_option maxRecDepth 100000

/-! ### to be read -/
/-- A write at a place: its bytes lie in one of the blocks of X. -/
structure PutIs (w : World) (X : Nat → Prop) (b o : Nat) (sb so sC : Nat) (P : PutP) : Prop where
  c0 : w.cell? ⟨b, o, none⟩ = some (.int .i64 P.pl)
  c1 : w.cell? ⟨b, o + 1, none⟩ = some (.slice (some ⟨sb, so, none⟩) P.n sC)
  row : RowV w (.slice (some ⟨sb, so, none⟩) P.n sC) P.n P.z
  X : X sb
  lt : sb < w.heap.size
/-- n of them, in blocks of X. -/
def PutsV (w : World) (X : Nat → Prop) (A : Option Addr) (n : Nat) (f : Nat → PutP) : Prop :=
  n ≤ 140737488351232 ∧ (0 < n → ∃ b o, A = some ⟨b, o, none⟩ ∧ X b ∧ ∀ c, c < n → ∃ sb so sC, PutIs w X b (o + c * 2) sb so sC (f c))
theorem RowV.ch' {w w' : World} {S : Nat → Prop} {b o n C : Nat} {z : Nat → Nat} (h : RowV w (.slice (some ⟨b, o, none⟩) n C) n z) (k : Ch S w w') (hb : ¬ S b) : RowV w' (.slice (some ⟨b, o, none⟩) n C) n z := by
  obtain ⟨A1, c1, e1, g1, g2⟩ := h
  injection e1 with e1 _ e2
  subst e1
  subst e2
  refine ⟨_, _, rfl, g1, fun h0 => ?_⟩
  obtain ⟨b', o', e, g3⟩ := g2 h0
  have e' := e
  injection e' with e'
  injection e' with e1 e2
  subst e1
  subst e2
  exact ⟨_, _, rfl, fun j hj => ⟨k.cell (g3 j hj).1 hb, (g3 j hj).2⟩⟩
theorem PutIs.ch {w w' : World} {X S : Nat → Prop} {b o sb so sC : Nat} {P : PutP} (h : PutIs w X b o sb so sC P) (k : Ch S w w') (hb : X b) (hX : ∀ i, X i → ¬ S i) : PutIs w' X b o sb so sC P :=
  ⟨k.cell h.c0 (hX b hb), k.cell h.c1 (hX b hb), h.row.ch' k (hX sb h.X), h.X, Nat.lt_of_lt_of_le h.lt k.size⟩
theorem PutsV.ch {w w' : World} {X S : Nat → Prop} {A : Option Addr} {n : Nat} {f : Nat → PutP} (h : PutsV w X A n f) (k : Ch S w w') (hX : ∀ i, X i → ¬ S i) : PutsV w' X A n f := by
  refine ⟨h.1, fun h0 => ?_⟩
  obtain ⟨b, o, hA, hb, hc⟩ := h.2 h0
  refine ⟨b, o, hA, hb, fun c hcn => ?_⟩
  obtain ⟨sb, so, sC, hp⟩ := hc c hcn
  exact ⟨sb, so, sC, hp.ch k hb hX⟩
theorem PutsV.gr {w w' : World} {X : Nat → Prop} {A : Option Addr} {n : Nat} {f : Nat → PutP} (h : PutsV w X A n f) (k : Ch (fun _ => False) w w') : PutsV w' X A n f := h.ch k (fun _ _ x => x)
theorem load_put {w : World} {b o : Nat} {u v : Value} (h0 : w.cell? ⟨b, o, none⟩ = some u) (h1 : w.cell? ⟨b, o + 1, none⟩ = some v) : (loadVar 164 ⟨b, o, none⟩).run Tryz.prog w = .ok (.agg #[u, v]) w :=
  run_loadVar_mid w b o _ [u, v] _ (fun j x hj => by
    have hj2 : j < 2 := (List.getElem?_eq_some_iff.1 hj).1
    match j, hj2 with
    | 0, _ => exact h0.trans hj
    | 1, _ => exact h1.trans hj) Tryz.underlying164 rfl (show _ = some 2 by kernel_rfl)

/-! ### of one's own -/
def putC (P : PutP) (v : Value) : List Value := [.int .i64 P.pl, v]
theorem info_put : (Tryz.prog.info? 164).map (fun i => (i.zero, i.size, i.bytes)) = some (some (.agg #[.int .i64 0, .slice none 0 0]), 2, 32) := by kernel_rfl
theorem under_puts : Tryz.prog.underlying 162 = some (.slice 164) := by kernel_rfl
theorem slice_put (w : World) (a b : Value) : (Instr.buildSlice 162 1 #[(0, .agg #[a, b])]).run Tryz.prog w = .ok (.slice (some ⟨w.heap.size, 0, none⟩) 1 1) (w.alloc (.cells #[a, b] 164)) := by
  obtain ⟨i0, hi, hz0, hz1, hz2⟩ := info_parts info_put
  refine run_buildSlice (P := Tryz.prog) w _ _ 1 _ _ i0 _ under_puts hi hz0 (by rw [hz1]; omega) (by rw [hz1]; omega) ?_
  rw [hz1]
  exact fill_one _ _ 2 rfl (by simp) (by omega)
theorem wpList_appP {ops : Array Oper} {rest : List Oper} {o : Oper} {a : Act} {Q : Exit → Act → World → Prop} (w : World) (hgd : o.guard = none) (s x : Operand)
    (ho : o.op = .call { callee := .builtin .append, args := #[s, x], argTypes := #[ 162, 162] }) (hty : o.type = 162) (sv xv v' : Value) (w' : World) (hs : a.eval s = sv) (hx : a.eval x = xv)
    (hrun : (Builtin.append_ #[ 162, 162] 162 #[sv, xv]).run Tryz.prog w = .ok v' w') (h : wpList Tryz.prog ops Q rest (a.put o.dst v') w') : wpList Tryz.prog ops Q (o :: rest) a w := by
  refine wpList_plain hgd fun _ hK => ?_
  unfold Oper.wp execOp
  simp only [ho, hty, resolve, invoke, builtin, Sem.run_bind, Sem.run_pure, Result.andThen_ok, List.map_toArray, List.map_cons, List.map_nil, hs, hx, hrun]
  exact hK _ _ h
/-- The cells of k writes, whose bytes are s. -/
def putL (f : Nat → PutP) (s : Nat → Value) (k : Nat) : List Value := (List.range k).flatMap fun c => [.int .i64 (f c).pl, s c]
theorem putL_len (f : Nat → PutP) (s : Nat → Value) : ∀ k, (putL f s k).length = k * 2
  | 0 => rfl
  | k + 1 => by
    have ih := putL_len f s k
    unfold putL at ih ⊢
    rw [List.range_succ, List.flatMap_append, List.length_append, ih]
    simp
    omega
theorem putL_snoc (f : Nat → PutP) (s : Nat → Value) (k : Nat) : putL f s (k + 1) = putL f s k ++ [.int .i64 (f k).pl, s k] := by
  unfold putL
  rw [List.range_succ, List.flatMap_append]
  rfl
theorem putL_get {f : Nat → PutP} {s : Nat → Value} {k c : Nat} (h : c < k) : (putL f s k)[c * 2]? = some (.int .i64 (f c).pl) ∧ (putL f s k)[c * 2 + 1]? = some (s c) := by
  induction k with
  | zero => omega
  | succ k ih =>
    rw [putL_snoc]
    by_cases q : c < k
    · obtain ⟨h1, h2⟩ := ih q
      rw [List.getElem?_append_left (by rw [putL_len]; omega), List.getElem?_append_left (by rw [putL_len]; omega)]
      exact ⟨h1, h2⟩
    · obtain rfl : c = k := by omega
      rw [List.getElem?_append_right (by rw [putL_len]; omega), List.getElem?_append_right (by rw [putL_len]; omega), putL_len]
      simp
theorem putL_congr {f : Nat → PutP} {s s' : Nat → Value} {k : Nat} (h : ∀ c, c < k → s c = s' c) : putL f s k = putL f s' k := by
  induction k with
  | zero => rfl
  | succ k ih => rw [putL_snoc, putL_snoc, ih (fun c hc => h c (by omega)), h k (by omega)]
theorem putL_one {f : Nat → PutP} {s : Nat → Value} {k : Nat} (h : ∀ c, c < k → (s c).oneCell' = true) : ∀ u ∈ putL f s k, u.oneCell' = true := fun u hu => by
  unfold putL at hu
  obtain ⟨c, hc, hu⟩ := List.mem_flatMap.1 hu
  rcases List.mem_cons.1 hu with rfl | hu
  · rfl
  · rw [List.mem_singleton.1 hu]; exact h c (List.mem_range.1 hc)
/-- Bytes of one's own: a slice of a block of bytes, made behind w. -/
structure OwnB (w wr : World) (v : Value) (n : Nat) (z : Nat → Nat) (sb so sC : Nat) : Prop where
  eq : v = .slice (some ⟨sb, so, none⟩) n sC
  row : RowV wr (.slice (some ⟨sb, so, none⟩) n sC) n z
  blk : ∃ c, wr.heap[sb]? = some (.cells c /-t-/5 (0, 0))
  lo : w.heap.size ≤ sb
theorem OwnB.ch {S : Nat → Prop} {w wr w' : World} {v : Value} {n sb so sC : Nat} {z : Nat → Nat} (h : OwnB w wr v n z sb so sC) (k : Ch S wr w') (hS : ¬ S sb) : OwnB w w' v n z sb so sC := by
  obtain ⟨c, hc⟩ := h.blk
  exact ⟨h.eq, h.row.ch' k hS, ⟨c, (k.block sb (blk_lt hc) hS).trans hc⟩, h.lo⟩
theorem own_gr {w w' : World} {base : Nat} {e : TypeId} {sz : Nat} {v : Value} {n : Nat} {xs : List Value} (h : w.ownsRow base e sz v n xs) (k : Ch (fun _ => False) w w') : w'.ownsRow base e sz v n xs :=
  own_of h (fun i hi => by obtain ⟨_, c, hc⟩ := own_at h hi; exact k.block i (blk_lt hc) (fun f => f))
/-- k writes that a call has gathered since w, one behind the other. -/
structure PutsO (w wr : World) (v : Value) (k : Nat) (f : Nat → PutP) (s : Nat → Value) : Prop where
  own : wr.ownsRow w.heap.size 164 2 v k (putL f s k)
  rows : ∀ c, c < k → ∃ sb so sC, OwnB w wr (s c) (f c).n (f c).z sb so sC
  ch : Ch (fun _ => False) w wr
theorem PutsO.start (w : World) (f : Nat → PutP) (s : Nat → Value) : PutsO w w (.slice none 0 0) 0 f s := ⟨World.ownsRow_nil w w.heap.size _ 2, fun c hc => absurd hc (Nat.not_lt_zero c), Ch.refl _ w⟩
theorem PutsO.gr {w wr w' : World} {v : Value} {k : Nat} {f : Nat → PutP} {s : Nat → Value} (h : PutsO w wr v k f s) (c : Ch (fun _ => False) wr w') : PutsO w w' v k f s :=
  ⟨own_gr h.own c, fun i hi => by obtain ⟨sb, so, sC, q⟩ := h.rows i hi; exact ⟨sb, so, sC, q.ch c (fun f => f)⟩, h.ch.trans c⟩
theorem PutsO.len {w wr : World} {v : Value} {k : Nat} {f : Nat → PutP} {s : Nat → Value} (h : PutsO w wr v k f s) : ∃ A C, v = .slice A k C := by
  rcases h.own.2 with ⟨rfl, h0⟩ | ⟨g, cap, cur, rfl, _⟩
  · exact ⟨none, 0, by rw [h0]⟩
  · exact ⟨_, _, rfl⟩
theorem PutsO.app {w wr : World} {v : Value} {k sb so sC : Nat} {f : Nat → PutP} {s : Nat → Value} {u : Value} (h : PutsO w wr v k f s) (hu : OwnB w wr u (f k).n (f k).z sb so sC) (hk : k ≤ 1048576) :
    ∃ g cap w2, (Builtin.append_ #[ 162, 162] 162 #[v, .slice (some ⟨wr.heap.size, 0, none⟩) 1 1]).run Tryz.prog (wr.alloc (.cells #[.int .i64 (f k).pl, u] 164)) = .ok (.slice (some ⟨g, 0, none⟩) (k + 1) cap) w2 ∧ PutsO w w2 (.slice (some ⟨g, 0, none⟩) (k + 1) cap) (k + 1) f (up s k u) := by
  obtain ⟨i0, hi, hz0, hz1, hz2⟩ := info_parts info_put
  have k1 : Ch (fun _ => False) wr (wr.alloc (.cells #[.int .i64 (f k).pl, u] 164)) := (Ch.refl _ wr).alloc _ _
  have hu1 := hu.ch k1 (fun x => x)
  have one : u.oneCell' = true := by rw [hu.eq]; rfl
  have es : putL f s k = putL f (up s k u) k := putL_congr fun c hc => (up_other s u (by omega)).symm
  obtain ⟨g, cap, w2, hr, h2, h3, h4, _⟩ := run_append_lies (P := Tryz.prog) (wr.alloc (.cells #[.int .i64 (f k).pl, u] 164)) 162 162 w.heap.size 164 i0 _ 2 32 under_puts hi hz0 hz1 hz2 rfl (by omega) v k (putL f s k) (own_gr h.own k1) ⟨wr.heap.size, 0, none⟩ 1 1 [.int .i64 (f k).pl, u] rfl (fun j x hx => by
    rw [add_pl, blk_cell (heap_alloc_new wr _), Nat.zero_add]
    show ([Value.int .i64 (f k).pl, u].toArray)[j]? = some x
    rw [List.getElem?_toArray]
    exact hx) (fun x hx => by
      rcases List.mem_cons.1 hx with rfl | hx
      · rfl
      · rw [List.mem_singleton.1 hx]; exact one) (by omega) (by unfold maxLen; omega) (by omega) (Nat.le_trans h.ch.size k1.size) _ rfl
  have e2 : putL f s k ++ [.int .i64 (f k).pl, u] = putL f (up s k u) (k + 1) := by rw [putL_snoc, ← es, up_same]
  rw [e2] at h2
  have k2 : Ch (fun i => v.ownBlock = some i) (wr.alloc (.cells #[.int .i64 (f k).pl, u] 164)) w2 := (Ch.refl _ _).grown h3 (fun i hi => Or.inl hi)
  have off : ∀ i c, (wr.alloc (.cells #[.int .i64 (f k).pl, u] 164)).heap[i]? = some (.cells c /-t-/5 (0, 0)) → ¬ v.ownBlock = some i := fun i c hc e => by
    obtain ⟨_, c2, hc2⟩ := own_at (own_gr h.own k1) e
    exact cells_ne hc2 hc (by decide) rfl
  refine ⟨g, cap, w2, hr, h2, fun c hc => ?_, (h.ch.trans k1).new (k2.mono fun i _ hi => (own_at h.own hi).1)⟩
  by_cases q : c = k
  · subst q
    obtain ⟨cc, hcc⟩ := hu1.blk
    exact ⟨sb, so, sC, by rw [up_same]; exact hu1.ch k2 (off sb cc hcc)⟩
  · obtain ⟨b, o, C, r⟩ := h.rows c (by omega)
    have r1 := r.ch k1 (fun x => x)
    obtain ⟨cc, hcc⟩ := r1.blk
    exact ⟨b, o, C, by rw [up_other _ _ q]; exact r1.ch k2 (off b cc hcc)⟩
/-- They may be read. -/
theorem PutsO.read {w wr : World} {A : Option Addr} {C k : Nat} {f : Nat → PutP} {s : Nat → Value} (h : PutsO w wr (.slice A k C) k f s) (hk : k ≤ 140737488351232) : PutsV wr (fun i => w.heap.size ≤ i ∧ i < wr.heap.size) A k f := by
  refine ⟨hk, fun h0 => ?_⟩
  rcases h.own.2 with ⟨_, q⟩ | ⟨g, cap, cur, e, hb, hg, _⟩
  · omega
  · injection e with e _ _
    subst e
    refine ⟨g, 0, rfl, ⟨hb, blk_lt hg⟩, fun c hc => ?_⟩
    obtain ⟨sb, so, sC, r⟩ := h.rows c hc
    obtain ⟨cc, hcc⟩ := r.blk
    obtain ⟨g0, g1⟩ := putL_get (f := f) (s := s) hc
    have c0 := World.ownsRow.cells h.own (g := g) rfl _ _ g0
    have c1 := World.ownsRow.cells h.own (g := g) rfl _ _ g1
    rw [add_pl] at c0 c1
    exact ⟨sb, so, sC, c0, by rw [← r.eq]; exact c1, r.row, ⟨r.lo, blk_lt hcc⟩, blk_lt hcc⟩
#print axioms slice_put
#print axioms PutsO.app
#print axioms PutsO.read
end Go.Proofs.YteleknojohnlbaaGreat
namespace Go.Proofs.YteleknojohnlbaaGreat.Crc

def st (r : Nat) : Nat := if r % 2 = 1 then r / 2 ^^^ 2197175160 else r / 2
def it : Nat → Nat → Nat
  | 0, r => r
  | k + 1, r => st (it k r)
def up (r b : Nat) : Nat := it 8 (r ^^^ b)
def reg (r : Nat) (z : Nat → Nat) : Nat → Nat
  | 0 => r
  | k + 1 => up (reg r z k) (z k)
def sumZ (n : Nat) (z : Nat → Nat) : Nat := reg 4294967295 z n ^^^ 4294967295

theorem xor_half (a b : Nat) : (a ^^^ b) / 2 = a / 2 ^^^ b / 2 := Nat.xor_div_two
theorem xor_odd (a b : Nat) : (a ^^^ b) % 2 = (a % 2) ^^^ (b % 2) := Nat.xor_mod_two_pow (n := 1)
theorem xor_swap (a b c d : Nat) : (a ^^^ b) ^^^ (c ^^^ d) = (a ^^^ c) ^^^ (b ^^^ d) := by
  rw [Nat.xor_assoc, Nat.xor_assoc, ← Nat.xor_assoc b c d, Nat.xor_comm b c, Nat.xor_assoc c b d]
theorem xor_none {a b : Nat} (h : a ^^^ b = 0) : a = b := by
  have : a ^^^ b ^^^ b = b := by rw [h, Nat.zero_xor]
  rwa [Nat.xor_assoc, Nat.xor_self, Nat.xor_zero] at this
theorem xor_lt {a b : Nat} (ha : a < 4294967296) (hb : b < 4294967296) : a ^^^ b < 4294967296 := Nat.xor_lt_two_pow (n := 32) ha hb
theorem xor_lt8 {a b : Nat} (ha : a < 256) (hb : b < 256) : a ^^^ b < 256 := Nat.xor_lt_two_pow (n := 8) ha hb

theorem st_xor (a b : Nat) : st (a ^^^ b) = st a ^^^ st b := by
  unfold st
  rw [xor_half, xor_odd]
  rcases Nat.mod_two_eq_zero_or_one a with ha | ha <;> rcases Nat.mod_two_eq_zero_or_one b with hb | hb <;> rw [ha, hb]
  · simp
  · simp [Nat.xor_assoc]
  · simp only [Nat.xor_zero, if_true]
    rw [if_neg (by decide), Nat.xor_assoc, Nat.xor_assoc, Nat.xor_comm 2197175160]
  · simp only [Nat.xor_self, if_true]
    rw [if_neg (by decide), xor_swap, Nat.xor_self, Nat.xor_zero]
theorem st_lt {r : Nat} (h : r < 4294967296) : st r < 4294967296 := by
  unfold st; split
  · exact xor_lt (by omega) (by omega)
  · omega
theorem st_zero {r : Nat} (h : r < 4294967296) (e : st r = 0) : r = 0 := by
  unfold st at e; split at e
  · have := xor_none e; omega
  · omega
theorem it_xor (k a b : Nat) : it k (a ^^^ b) = it k a ^^^ it k b := by
  induction k with
  | zero => rfl
  | succ k ih => show st _ = st _ ^^^ st _; rw [ih, st_xor]
theorem it_lt {r : Nat} (h : r < 4294967296) : ∀ k, it k r < 4294967296
  | 0 => h
  | k + 1 => st_lt (it_lt h k)
theorem it_zero {r : Nat} (h : r < 4294967296) : ∀ k, it k r = 0 → r = 0
  | 0, e => e
  | k + 1, e => it_zero h k (st_zero (it_lt h k) e)
theorem it_none : ∀ k, it k 0 = 0
  | 0 => rfl
  | k + 1 => by show st (it k 0) = 0; rw [it_none k]; rfl
theorem it_high (h : Nat) : ∀ k, it k (2 ^ k * h) = h := by
  intro k
  induction k generalizing h with
  | zero => show 2 ^ 0 * h = h; simp
  | succ k ih =>
    show st (it k (2 ^ (k + 1) * h)) = h
    rw [Nat.pow_succ, Nat.mul_assoc, ih]
    unfold st; rw [if_neg (by omega)]; omega
theorem it_high8 (h : Nat) : it 8 (256 * h) = h := it_high h 8
theorem xor_low {b : Nat} (h : b < 256) (x : Nat) : b ^^^ 256 * x = b + 256 * x := by
  have e1 : (b ^^^ 256 * x) / 256 = x := by
    have := Nat.xor_div_two_pow (a := b) (b := 256 * x) (n := 8)
    rw [show (2 : Nat) ^ 8 = 256 from rfl] at this
    rw [this, Nat.div_eq_of_lt h, Nat.mul_div_cancel_left x (by omega), Nat.zero_xor]
  have e2 : (b ^^^ 256 * x) % 256 = b := by
    have := Nat.xor_mod_two_pow (a := b) (b := 256 * x) (n := 8)
    rw [show (2 : Nat) ^ 8 = 256 from rfl] at this
    rw [this, Nat.mod_eq_of_lt h, Nat.mul_mod_right, Nat.xor_zero]
  omega
/-- A byte of a sum takes one look and one shift. -/
theorem up_look (r b : Nat) : up r b = it 8 ((r % 256) ^^^ b) ^^^ (r / 256) := by
  have e : r = (r % 256) ^^^ 256 * (r / 256) := by rw [xor_low (Nat.mod_lt _ (by omega))]; omega
  have e2 : r ^^^ b = ((r % 256) ^^^ b) ^^^ 256 * (r / 256) := by
    have h : r ^^^ b = (r % 256 ^^^ 256 * (r / 256)) ^^^ b := congrArg (· ^^^ b) e
    rw [h, Nat.xor_assoc, Nat.xor_comm (256 * (r / 256)), ← Nat.xor_assoc]
  unfold up
  rw [e2, it_xor, it_high8]
theorem up_xor (r s b c : Nat) : up (r ^^^ s) (b ^^^ c) = up r b ^^^ up s c := by unfold up; rw [xor_swap, it_xor]
theorem up_lt {r b : Nat} (hr : r < 4294967296) (hb : b < 256) : up r b < 4294967296 := it_lt (xor_lt hr (by omega)) 8
theorem reg_xor (r s : Nat) (z y : Nat → Nat) (n : Nat) : reg (r ^^^ s) (fun i => z i ^^^ y i) n = reg r z n ^^^ reg s y n := by
  induction n with
  | zero => rfl
  | succ n ih => show up _ _ = up _ _ ^^^ up _ _; rw [ih, up_xor]
theorem reg_lt {r : Nat} {z : Nat → Nat} (hr : r < 4294967296) : ∀ n, (∀ i, i < n → z i < 256) → reg r z n < 4294967296
  | 0, _ => hr
  | n + 1, h => up_lt (reg_lt hr n fun i hi => h i (by omega)) (h n (by omega))
theorem reg_congr {r : Nat} {z y : Nat → Nat} : ∀ n, (∀ i, i < n → z i = y i) → reg r z n = reg r y n
  | 0, _ => rfl
  | n + 1, h => by show up _ _ = up _ _; rw [reg_congr n fun i hi => h i (by omega), h n (by omega)]
theorem reg_add (r : Nat) (z : Nat → Nat) (n m : Nat) : reg r z (n + m) = reg (reg r z n) (fun i => z (n + i)) m := by
  induction m with
  | zero => rfl
  | succ m ih => show up (reg r z (n + m)) (z (n + m)) = up _ _; rw [ih]
theorem reg_none (z : Nat → Nat) : ∀ n, (∀ i, i < n → z i = 0) → reg 0 z n = 0
  | 0, _ => rfl
  | n + 1, h => by show up _ _ = 0; rw [reg_none z n fun i hi => h i (by omega), h n (by omega)]; exact it_none 8
/-- Behind noughts alone nothing has become nothing. -/
theorem reg_keeps {r : Nat} (hr : r < 4294967296) (z : Nat → Nat) : ∀ n, (∀ i, i < n → z i = 0) → reg r z n = 0 → r = 0
  | 0, _, e => e
  | n + 1, h, e => by
    have h' : ∀ i, i < n → z i = 0 := fun i hi => h i (by omega)
    refine reg_keeps hr z n h' ?_
    have e' : it 8 (reg r z n ^^^ z n) = 0 := e
    rw [h n (by omega), Nat.xor_zero] at e'
    exact it_zero (reg_lt hr n fun i hi => by rw [h' i hi]; omega) 8 e'
/-- Four bytes make nothing of a register that is their own number, and of no other one. -/
theorem up_with (r b c : Nat) : up r b ^^^ c = it 8 (r ^^^ (b ^^^ 256 * c)) := by
  unfold up; rw [← Nat.xor_assoc, it_xor 8 (r ^^^ b), it_high8]
def le4 (a b c d : Nat) : Nat := a + 256 * (b + 256 * (c + 256 * d))
theorem le4_lt {a b c d : Nat} (ha : a < 256) (hb : b < 256) (hc : c < 256) (hd : d < 256) : le4 a b c d < 4294967296 := by unfold le4; omega
theorem le4_none {a b c d : Nat} (h : le4 a b c d = 0) : a = 0 ∧ b = 0 ∧ c = 0 ∧ d = 0 := by unfold le4 at h; omega
theorem four (r a b c d : Nat) (ha : a < 256) (hb : b < 256) (hc : c < 256) : up (up (up (up r a) b) c) d = it 8 (it 8 (it 8 (it 8 (r ^^^ le4 a b c d)))) := by
  have e1 : up (up (up (up r a) b) c) d = it 8 (up (up (up r a) b) c ^^^ d) := rfl
  unfold le4
  rw [e1, up_with, xor_low hc, up_with, xor_low hb, up_with, xor_low ha]
theorem four_none {r a b c d : Nat} (hr : r < 4294967296) (ha : a < 256) (hb : b < 256) (hc : c < 256) (hd : d < 256) : up (up (up (up r a) b) c) d = 0 ↔ r = le4 a b c d := by
  rw [four r a b c d ha hb hc]
  have hx : r ^^^ le4 a b c d < 4294967296 := xor_lt hr (le4_lt ha hb hc hd)
  refine ⟨fun h => xor_none ?_, fun h => ?_⟩
  · exact it_zero hx 8 (it_zero (it_lt hx 8) 8 (it_zero (it_lt (it_lt hx 8) 8) 8 (it_zero (it_lt (it_lt (it_lt hx 8) 8) 8) 8 h)))
  · rw [h, Nat.xor_self, it_none, it_none, it_none, it_none]
theorem reg_four (r : Nat) (z : Nat → Nat) (n : Nat) : reg r z (n + 4) = up (up (up (up (reg r z n) (z n)) (z (n + 1))) (z (n + 2))) (z (n + 3)) := rfl

/-! ### sums -/
theorem sumZ_lt {n : Nat} {z : Nat → Nat} (h : ∀ i, i < n → z i < 256) : sumZ n z < 4294967296 := xor_lt (reg_lt (by omega) n h) (by omega)
theorem sumZ_congr {n : Nat} {z y : Nat → Nat} (h : ∀ i, i < n → z i = y i) : sumZ n z = sumZ n y := by unfold sumZ; rw [reg_congr n h]
theorem not_xor {r : Nat} (h : r < 4294967296) : r ^^^ 4294967295 = 4294967295 - r := by
  have : r ^^^ 4294967295 = 2 ^ 32 - 1 - r := by
    apply Nat.eq_of_testBit_eq
    intro i
    rw [Nat.testBit_xor, Nat.sub_sub, Nat.add_comm 1 r, Nat.testBit_two_pow_sub_succ (show r < 2 ^ 32 from h), show (4294967295 : Nat) = 2 ^ 32 - 1 from rfl, Nat.testBit_two_pow_sub_one]
    by_cases hi : i < 32
    · simp [hi]
    · simp [hi]; exact Nat.testBit_lt_two_pow (Nat.lt_of_lt_of_le (show r < 2 ^ 32 from h) (Nat.pow_le_pow_right (by omega) (by omega)))
  rw [this]
/-- The j-th byte of a number. -/
def byteOf (s j : Nat) : Nat := s / 256 ^ j % 256
theorem byteOf_lt (s j : Nat) : byteOf s j < 256 := Nat.mod_lt _ (by omega)
theorem byteOf_le4 {s : Nat} (h : s < 4294967296) : le4 (byteOf s 0) (byteOf s 1) (byteOf s 2) (byteOf s 3) = s := by
  unfold le4 byteOf; simp only [Nat.reducePow]; omega
theorem byteOf_of {a b c d : Nat} (ha : a < 256) (hb : b < 256) (hc : c < 256) (hd : d < 256) : byteOf (le4 a b c d) 0 = a ∧ byteOf (le4 a b c d) 1 = b ∧ byteOf (le4 a b c d) 2 = c ∧ byteOf (le4 a b c d) 3 = d := by
  unfold le4 byteOf; simp only [Nat.reducePow]; omega
/-- Sealed bytes: the sum's behind. -/
def sealZ (n : Nat) (z : Nat → Nat) (i : Nat) : Nat := if i < n then z i else byteOf (sumZ n z) (i - n)
theorem sealZ_lt {n : Nat} {z : Nat → Nat} (h : ∀ i, i < n → z i < 256) (i : Nat) : sealZ n z i < 256 := by
  unfold sealZ; split
  · exact h i (by assumption)
  · exact byteOf_lt _ _
/-- Whole: the last four are the sum of those ahead. -/
def Whole (n : Nat) (z : Nat → Nat) : Prop := 4 ≤ n ∧ ∀ j, j < 4 → z (n - 4 + j) = byteOf (sumZ (n - 4) z) j
instance (n : Nat) (z : Nat → Nat) : Decidable (Whole n z) := inferInstanceAs (Decidable (_ ∧ _))
def wholeB (n : Nat) (z : Nat → Nat) : Bool := decide (Whole n z)
theorem wholeB_congr {n : Nat} {z y : Nat → Nat} (h : ∀ i, i < n → z i = y i) : wholeB n z = wholeB n y := by
  unfold wholeB
  rw [decide_eq_decide]
  by_cases h4 : 4 ≤ n
  · constructor
    · rintro ⟨_, k⟩
      exact ⟨h4, fun j hj => by rw [← h _ (by omega), k j hj, sumZ_congr fun i hi => h i (by omega)]⟩
    · rintro ⟨_, k⟩
      exact ⟨h4, fun j hj => by rw [h _ (by omega), k j hj, sumZ_congr fun i hi => h i (by omega)]⟩
  · exact ⟨fun q => absurd q.1 h4, fun q => absurd q.1 h4⟩
/-- Whole is what leaves a certain register: that of all its bytes. -/
theorem whole_iff {n : Nat} {z : Nat → Nat} (h : ∀ i, i < n + 4 → z i < 256) : Whole (n + 4) z ↔ sumZ n z = le4 (z n) (z (n + 1)) (z (n + 2)) (z (n + 3)) := by
  have hs := sumZ_lt (n := n) (z := z) fun i hi => h i (by omega)
  unfold Whole
  rw [Nat.add_sub_cancel]
  constructor
  · rintro ⟨_, k⟩
    have := byteOf_le4 hs
    rw [← k 0 (by omega), ← k 1 (by omega), ← k 2 (by omega), ← k 3 (by omega)] at this
    exact this.symm
  · intro e
    refine ⟨by omega, fun j hj => ?_⟩
    have hb := byteOf_of (h n (by omega)) (h (n + 1) (by omega)) (h (n + 2) (by omega)) (h (n + 3) (by omega))
    rw [e]
    have : j = 0 ∨ j = 1 ∨ j = 2 ∨ j = 3 := by omega
    rcases this with rfl | rfl | rfl | rfl
    · exact hb.1.symm
    · exact hb.2.1.symm
    · exact hb.2.2.1.symm
    · exact hb.2.2.2.symm
theorem low_xor {a a' : Nat} (x x' : Nat) (ha : a < 256) (ha' : a' < 256) : (a ^^^ a') + 256 * (x ^^^ x') = (a + 256 * x) ^^^ (a' + 256 * x') := by
  have mul : 256 * (x ^^^ x') = 256 * x ^^^ 256 * x' := by
    have := Nat.shiftLeft_xor_distrib (a := x) (b := x') (i := 8)
    simp only [Nat.shiftLeft_eq, Nat.reducePow] at this
    rw [Nat.mul_comm, this, Nat.mul_comm x, Nat.mul_comm x']
  rw [← xor_low (xor_lt8 ha ha'), ← xor_low ha, ← xor_low ha', mul, xor_swap]
theorem le4_xor {a b c d a' b' c' d' : Nat} (ha : a < 256) (hb : b < 256) (hc : c < 256) (ha' : a' < 256) (hb' : b' < 256) (hc' : c' < 256) : le4 (a ^^^ a') (b ^^^ b') (c ^^^ c') (d ^^^ d') = le4 a b c d ^^^ le4 a' b' c' d' := by
  unfold le4
  rw [low_xor d d' hc hc', low_xor _ _ hb hb', low_xor _ _ ha ha']
theorem sealed_whole {n : Nat} {z : Nat → Nat} : Whole (n + 4) (sealZ n z) := by
  refine ⟨by omega, fun j hj => ?_⟩
  rw [Nat.add_sub_cancel, sumZ_congr (y := z) fun i hi => by unfold sealZ; rw [if_pos hi]]
  unfold sealZ; rw [if_neg (by omega), show n + j - n = j by omega]
/-- If up to four bytes in a row are changed it is not whole. -/
theorem few {n at' : Nat} {z d : Nat → Nat} (hz : ∀ i, i < n → z i < 256) (hd : ∀ i, d i < 256) (hat : at' ≤ n) (h0 : ∀ i, i < at' ∨ at' + 4 ≤ i → d i = 0) :
    Whole (n + 4) (fun i => sealZ n z i ^^^ d i) ↔ d at' = 0 ∧ d (at' + 1) = 0 ∧ d (at' + 2) = 0 ∧ d (at' + 3) = 0 := by
  have hs := sealZ_lt hz
  rw [whole_iff fun i _ => xor_lt8 (hs i) (hd i)]
  have e1 : sumZ n (fun i => sealZ n z i ^^^ d i) = sumZ n (sealZ n z) ^^^ reg 0 d n := by
    unfold sumZ
    have := reg_xor 4294967295 0 (sealZ n z) d n
    rw [Nat.xor_zero] at this
    rw [this, Nat.xor_assoc, Nat.xor_comm (reg 0 d n), ← Nat.xor_assoc]
  have e2 := (whole_iff fun i _ => hs i).1 sealed_whole
  rw [e1, le4_xor (hs _) (hs _) (hs _) (hd _) (hd _) (hd _), ← e2]
  have e3 : (sumZ n (sealZ n z) ^^^ reg 0 d n = sumZ n (sealZ n z) ^^^ le4 (d n) (d (n + 1)) (d (n + 2)) (d (n + 3))) ↔ reg 0 d n = le4 (d n) (d (n + 1)) (d (n + 2)) (d (n + 3)) := by
    refine ⟨fun h => ?_, fun h => by rw [h]⟩
    have := congrArg (fun x => sumZ n (sealZ n z) ^^^ x) h
    simpa only [← Nat.xor_assoc, Nat.xor_self, Nat.zero_xor] using this
  rw [e3, ← four_none (reg_lt (by omega) n fun i _ => hd i) (hd _) (hd _) (hd _) (hd _), ← reg_four]
  constructor
  · intro h
    rw [show n + 4 = (at' + 4) + (n - at') by omega, reg_add] at h
    have h2 := reg_keeps (reg_lt (by omega) _ fun i _ => hd i) _ (n - at') (fun i hi => h0 _ (by omega)) h
    rw [reg_four, four_none (reg_lt (by omega) _ fun i _ => hd i) (hd _) (hd _) (hd _) (hd _), reg_none d at' fun i hi => h0 i (by omega)] at h2
    exact le4_none h2.symm
  · rintro ⟨a, b, c, e⟩
    refine reg_none d _ fun i _ => ?_
    by_cases q : i < at' ∨ at' + 4 ≤ i
    · exact h0 i q
    · have : i = at' ∨ i = at' + 1 ∨ i = at' + 2 ∨ i = at' + 3 := by omega
      rcases this with rfl | rfl | rfl | rfl <;> assumption
/-- Sums of bytes of one length differ as their differences do. -/
theorem sums_same (n : Nat) (z y : Nat → Nat) : sumZ n z ^^^ sumZ n y ^^^ sumZ n (fun i => z i ^^^ y i) ^^^ sumZ n (fun _ => 0) = 0 := by
  have e1 := reg_xor 4294967295 4294967295 z y n
  have e2 := reg_xor 4294967295 4294967295 (fun i => z i ^^^ y i) (fun _ => 0) n
  simp only [Nat.xor_self, Nat.xor_zero] at e1 e2
  unfold sumZ
  rw [xor_swap (reg 4294967295 z n), ← e1, Nat.xor_self, Nat.xor_zero, Nat.xor_assoc, xor_swap (reg 4294967295 (fun i => z i ^^^ y i) n), ← e2, Nat.xor_self, Nat.xor_zero, Nat.xor_self]
/-- The sum of bytes, and of others behind them. -/
theorem sum_more (n m : Nat) (z y : Nat → Nat) : reg (sumZ n z ^^^ 4294967295) y m ^^^ 4294967295 = sumZ (n + m) (fun i => if i < n then z i else y (i - n)) := by
  have e1 : reg 4294967295 (fun i => if i < n then z i else y (i - n)) n = reg 4294967295 z n := reg_congr n fun i hi => if_pos hi
  have e2 : ∀ r, reg r (fun i => if n + i < n then z (n + i) else y (n + i - n)) m = reg r y m := fun r => reg_congr m fun i _ => by rw [if_neg (by omega), show n + i - n = i by omega]
  unfold sumZ
  rw [Nat.xor_assoc, Nat.xor_self, Nat.xor_zero, reg_add, e1, e2]
#print axioms few
end Go.Proofs.YteleknojohnlbaaGreat.Crc
namespace Go.Proofs.YteleknojohnlbaaGreat
open Go.RowKit
set_option linter.unusedVariables false
set_option maxRecDepth 100000

def litZ (l : List Nat) (i : Nat) : Nat := l.getD i 0
def litV (l : List Nat) : Array Value := (l.map fun (x : Nat) => Value.int .u8 (x : Int)).toArray
theorem lit_row (w : World) (l : List Nat) (n : Nat) (fr : Nat × Nat) (hn : l.length = n) (h : ∀ x ∈ l, x < 256) (h2 : n ≤ 65536) : RowV (w.alloc (.cells (litV l) /-t-/5 fr)) (.slice (some ⟨w.heap.size, 0, none⟩) n n) n (litZ l) := by
  refine ⟨_, _, rfl, by omega, fun _ => ⟨_, _, rfl, fun c hc => ⟨?_, ?_⟩⟩⟩
  · rw [cell_of_row _ _ _ _ _ fr (heap_alloc_new w _), Nat.zero_add]
    unfold litV litZ
    have hc' : c < l.length := by omega
    simp [List.getD, hc']
  · unfold litZ
    rw [List.getD, List.getElem?_eq_getElem (by omega)]
    exact h _ (List.getElem_mem _)
#print axioms lit_row
end Go.Proofs.YteleknojohnlbaaGreat
