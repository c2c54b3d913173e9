/-
  Rows of writes ([]api.Put): to be read, and of one's own. keep's keeper: a device and a count, behind calls. Variables that hold what a device says of itself.
-/
import Derived.Test.YtjdknebifcdicaaMg24
import Derived.Test.YtjdknebifcdicaaMg8
import Derived.Test.YtjdknebifcdicaaMg19
import Derived.Test.YtjdknebifcdicaaMg18
import Derived.Laws.ResultCell
namespace Go.Proofs.Ytjdknebifcdicaa
open Go.RowKit
set_option linter.unusedVariables false
set_option maxRecDepth 100000

/-! ### to be read -/
/-- A write at a place: its bytes lie in one of the blocks of X. -/
structure PutIs (w : World) (X : Nat → Prop) (b o : Nat) (sb so sC : Nat) (P : PutP) : Prop where
  c0 : w.cell? ⟨b, o, none⟩ = some (.int .i64 P.pl)
  c1 : w.cell? ⟨b, o + 1, none⟩ = some (.slice (some ⟨sb, so, none⟩) P.n sC)
  row : RowV w (.slice (some ⟨sb, so, none⟩) P.n sC) P.n P.z
  X : X sb
  lt : sb < w.heap.size
/-- n of them, in blocks of X. -/
def PutsV (w : World) (X : Nat → Prop) (A : Option Addr) (n : Nat) (f : Nat → PutP) : Prop :=
  n ≤ 140737488351232 ∧ (0 < n → ∃ b o, A = some ⟨b, o, none⟩ ∧ X b ∧ ∀ c, c < n → ∃ sb so sC, PutIs w X b (o + c * 2) sb so sC (f c))
theorem RowV.ch' {w w' : World} {S : Nat → Prop} {b o n C : Nat} {z : Nat → Nat} (h : RowV w (.slice (some ⟨b, o, none⟩) n C) n z) (k : Ch S w w') (hb : ¬ S b) : RowV w' (.slice (some ⟨b, o, none⟩) n C) n z := by
  obtain ⟨A1, c1, e1, g1, g2⟩ := h
  injection e1 with e1 _ e2
  subst e1
  subst e2
  refine ⟨_, _, rfl, g1, fun h0 => ?_⟩
  obtain ⟨b', o', e, g3⟩ := g2 h0
  have e' := e
  injection e' with e'
  injection e' with e1 e2
  subst e1
  subst e2
  exact ⟨_, _, rfl, fun j hj => ⟨k.cell (g3 j hj).1 hb, (g3 j hj).2⟩⟩
theorem PutIs.ch {w w' : World} {X S : Nat → Prop} {b o sb so sC : Nat} {P : PutP} (h : PutIs w X b o sb so sC P) (k : Ch S w w') (hb : X b) (hX : ∀ i, X i → ¬ S i) : PutIs w' X b o sb so sC P :=
  ⟨k.cell h.c0 (hX b hb), k.cell h.c1 (hX b hb), h.row.ch' k (hX sb h.X), h.X, Nat.lt_of_lt_of_le h.lt k.size⟩
theorem PutsV.ch {w w' : World} {X S : Nat → Prop} {A : Option Addr} {n : Nat} {f : Nat → PutP} (h : PutsV w X A n f) (k : Ch S w w') (hX : ∀ i, X i → ¬ S i) : PutsV w' X A n f := by
  refine ⟨h.1, fun h0 => ?_⟩
  obtain ⟨b, o, hA, hb, hc⟩ := h.2 h0
  refine ⟨b, o, hA, hb, fun c hcn => ?_⟩
  obtain ⟨sb, so, sC, hp⟩ := hc c hcn
  exact ⟨sb, so, sC, hp.ch k hb hX⟩
theorem PutsV.gr {w w' : World} {X : Nat → Prop} {A : Option Addr} {n : Nat} {f : Nat → PutP} (h : PutsV w X A n f) (k : Ch (fun _ => False) w w') : PutsV w' X A n f := h.ch k (fun _ _ x => x)
theorem load_put {w : World} {b o : Nat} {u v : Value} (h0 : w.cell? ⟨b, o, none⟩ = some u) (h1 : w.cell? ⟨b, o + 1, none⟩ = some v) : (loadVar 78 ⟨b, o, none⟩).run Try.prog w = .ok (.agg #[u, v]) w :=
  run_loadVar_mid w b o _ [u, v] _ (fun j x hj => by
    have hj2 : j < 2 := (List.getElem?_eq_some_iff.1 hj).1
    match j, hj2 with
    | 0, _ => exact h0.trans hj
    | 1, _ => exact h1.trans hj) Try.underlying78 rfl (show _ = some 2 by kernel_rfl)

/-! ### of one's own -/
def putC (P : PutP) (v : Value) : List Value := [.int .i64 P.pl, v]
theorem info_put : (Try.prog.info? 78).map (fun i => (i.zero, i.size, i.bytes)) = some (some (.agg #[.int .i64 0, .slice none 0 0]), 2, 32) := by kernel_rfl
theorem under_puts : Try.prog.underlying 76 = some (.slice 78) := by kernel_rfl
theorem slice_put (w : World) (a b : Value) : (Instr.buildSlice 76 1 #[(0, .agg #[a, b])]).run Try.prog w = .ok (.slice (some ⟨w.heap.size, 0, none⟩) 1 1) (w.alloc (.cells #[a, b] 78)) := by
  obtain ⟨i0, hi, hz0, hz1, hz2⟩ := info_parts info_put
  refine run_buildSlice (P := Try.prog) w _ _ 1 _ _ i0 _ under_puts hi hz0 (by rw [hz1]; omega) (by rw [hz1]; omega) ?_
  rw [hz1]
  exact fill_one _ _ 2 rfl (by simp) (by omega)
theorem wpList_appP {ops : Array Oper} {rest : List Oper} {o : Oper} {a : Act} {Q : Exit → Act → World → Prop} (w : World) (hgd : o.guard = none) (s x : Operand)
    (ho : o.op = .call { callee := .builtin .append, args := #[s, x], argTypes := #[ 76, 76] }) (hty : o.type = 76) (sv xv v' : Value) (w' : World) (hs : a.eval s = sv) (hx : a.eval x = xv)
    (hrun : (Builtin.append_ #[ 76, 76] 76 #[sv, xv]).run Try.prog w = .ok v' w') (h : wpList Try.prog ops Q rest (a.put o.dst v') w') : wpList Try.prog ops Q (o :: rest) a w := by
  refine wpList_plain hgd fun _ hK => ?_
  unfold Oper.wp execOp
  simp only [ho, hty, resolve, invoke, builtin, Sem.run_bind, Sem.run_pure, Result.andThen_ok, List.map_toArray, List.map_cons, List.map_nil, hs, hx, hrun]
  exact hK _ _ h
/-- The cells of k writes, whose bytes are s. -/
def putL (f : Nat → PutP) (s : Nat → Value) (k : Nat) : List Value := (List.range k).flatMap fun c => [.int .i64 (f c).pl, s c]
theorem putL_len (f : Nat → PutP) (s : Nat → Value) : ∀ k, (putL f s k).length = k * 2
  | 0 => rfl
  | k + 1 => by
    have ih := putL_len f s k
    unfold putL at ih ⊢
    rw [List.range_succ, List.flatMap_append, List.length_append, ih]
    simp
    omega
theorem putL_snoc (f : Nat → PutP) (s : Nat → Value) (k : Nat) : putL f s (k + 1) = putL f s k ++ [.int .i64 (f k).pl, s k] := by
  unfold putL
  rw [List.range_succ, List.flatMap_append]
  rfl
theorem putL_get {f : Nat → PutP} {s : Nat → Value} {k c : Nat} (h : c < k) : (putL f s k)[c * 2]? = some (.int .i64 (f c).pl) ∧ (putL f s k)[c * 2 + 1]? = some (s c) := by
  induction k with
  | zero => omega
  | succ k ih =>
    rw [putL_snoc]
    by_cases q : c < k
    · obtain ⟨h1, h2⟩ := ih q
      rw [List.getElem?_append_left (by rw [putL_len]; omega), List.getElem?_append_left (by rw [putL_len]; omega)]
      exact ⟨h1, h2⟩
    · obtain rfl : c = k := by omega
      rw [List.getElem?_append_right (by rw [putL_len]; omega), List.getElem?_append_right (by rw [putL_len]; omega), putL_len]
      simp
theorem putL_congr {f : Nat → PutP} {s s' : Nat → Value} {k : Nat} (h : ∀ c, c < k → s c = s' c) : putL f s k = putL f s' k := by
  induction k with
  | zero => rfl
  | succ k ih => rw [putL_snoc, putL_snoc, ih (fun c hc => h c (by omega)), h k (by omega)]
theorem putL_one {f : Nat → PutP} {s : Nat → Value} {k : Nat} (h : ∀ c, c < k → (s c).oneCell' = true) : ∀ u ∈ putL f s k, u.oneCell' = true := fun u hu => by
  unfold putL at hu
  obtain ⟨c, hc, hu⟩ := List.mem_flatMap.1 hu
  rcases List.mem_cons.1 hu with rfl | hu
  · rfl
  · rw [List.mem_singleton.1 hu]; exact h c (List.mem_range.1 hc)
/-- Bytes of one's own: a slice of a block of bytes, made behind w. -/
structure OwnB (w wr : World) (v : Value) (n : Nat) (z : Nat → Nat) (sb so sC : Nat) : Prop where
  eq : v = .slice (some ⟨sb, so, none⟩) n sC
  row : RowV wr (.slice (some ⟨sb, so, none⟩) n sC) n z
  blk : ∃ c, wr.heap[sb]? = some (.cells c /-t-/5 (0, 0))
  lo : w.heap.size ≤ sb
theorem OwnB.ch {S : Nat → Prop} {w wr w' : World} {v : Value} {n sb so sC : Nat} {z : Nat → Nat} (h : OwnB w wr v n z sb so sC) (k : Ch S wr w') (hS : ¬ S sb) : OwnB w w' v n z sb so sC := by
  obtain ⟨c, hc⟩ := h.blk
  exact ⟨h.eq, h.row.ch' k hS, ⟨c, (k.block sb (blk_lt hc) hS).trans hc⟩, h.lo⟩
theorem own_gr {w w' : World} {base : Nat} {e : TypeId} {sz : Nat} {v : Value} {n : Nat} {xs : List Value} (h : w.ownsRow base e sz v n xs) (k : Ch (fun _ => False) w w') : w'.ownsRow base e sz v n xs :=
  own_of h (fun i hi => by obtain ⟨_, c, hc⟩ := own_at h hi; exact k.block i (blk_lt hc) (fun f => f))
/-- k writes that a call has gathered since w, one behind the other. -/
structure PutsO (w wr : World) (v : Value) (k : Nat) (f : Nat → PutP) (s : Nat → Value) : Prop where
  own : wr.ownsRow w.heap.size 78 2 v k (putL f s k)
  rows : ∀ c, c < k → ∃ sb so sC, OwnB w wr (s c) (f c).n (f c).z sb so sC
  ch : Ch (fun _ => False) w wr
theorem PutsO.start (w : World) (f : Nat → PutP) (s : Nat → Value) : PutsO w w (.slice none 0 0) 0 f s := ⟨World.ownsRow_nil w w.heap.size _ 2, fun c hc => absurd hc (Nat.not_lt_zero c), Ch.refl _ w⟩
theorem PutsO.gr {w wr w' : World} {v : Value} {k : Nat} {f : Nat → PutP} {s : Nat → Value} (h : PutsO w wr v k f s) (c : Ch (fun _ => False) wr w') : PutsO w w' v k f s :=
  ⟨own_gr h.own c, fun i hi => by obtain ⟨sb, so, sC, q⟩ := h.rows i hi; exact ⟨sb, so, sC, q.ch c (fun f => f)⟩, h.ch.trans c⟩
theorem PutsO.len {w wr : World} {v : Value} {k : Nat} {f : Nat → PutP} {s : Nat → Value} (h : PutsO w wr v k f s) : ∃ A C, v = .slice A k C := by
  rcases h.own.2 with ⟨rfl, h0⟩ | ⟨g, cap, cur, rfl, _⟩
  · exact ⟨none, 0, by rw [h0]⟩
  · exact ⟨_, _, rfl⟩
theorem PutsO.app {w wr : World} {v : Value} {k sb so sC : Nat} {f : Nat → PutP} {s : Nat → Value} {u : Value} (h : PutsO w wr v k f s) (hu : OwnB w wr u (f k).n (f k).z sb so sC) (hk : k ≤ 1048576) :
    ∃ g cap w2, (Builtin.append_ #[ 76, 76] 76 #[v, .slice (some ⟨wr.heap.size, 0, none⟩) 1 1]).run Try.prog (wr.alloc (.cells #[.int .i64 (f k).pl, u] 78)) = .ok (.slice (some ⟨g, 0, none⟩) (k + 1) cap) w2 ∧ PutsO w w2 (.slice (some ⟨g, 0, none⟩) (k + 1) cap) (k + 1) f (up s k u) := by
  obtain ⟨i0, hi, hz0, hz1, hz2⟩ := info_parts info_put
  have k1 : Ch (fun _ => False) wr (wr.alloc (.cells #[.int .i64 (f k).pl, u] 78)) := (Ch.refl _ wr).alloc _ _
  have hu1 := hu.ch k1 (fun x => x)
  have one : u.oneCell' = true := by rw [hu.eq]; rfl
  have es : putL f s k = putL f (up s k u) k := putL_congr fun c hc => (up_other s u (by omega)).symm
  obtain ⟨g, cap, w2, hr, h2, h3, h4, _⟩ := run_append_lies (P := Try.prog) (wr.alloc (.cells #[.int .i64 (f k).pl, u] 78)) 76 76 w.heap.size 78 i0 _ 2 32 under_puts hi hz0 hz1 hz2 rfl (by omega) v k (putL f s k) (own_gr h.own k1) ⟨wr.heap.size, 0, none⟩ 1 1 [.int .i64 (f k).pl, u] rfl (fun j x hx => by
    rw [add_pl, blk_cell (heap_alloc_new wr _), Nat.zero_add]
    show ([Value.int .i64 (f k).pl, u].toArray)[j]? = some x
    rw [List.getElem?_toArray]
    exact hx) (fun x hx => by
      rcases List.mem_cons.1 hx with rfl | hx
      · rfl
      · rw [List.mem_singleton.1 hx]; exact one) (by omega) (by unfold maxLen; omega) (by omega) (Nat.le_trans h.ch.size k1.size) _ rfl
  have e2 : putL f s k ++ [.int .i64 (f k).pl, u] = putL f (up s k u) (k + 1) := by rw [putL_snoc, ← es, up_same]
  rw [e2] at h2
  have k2 : Ch (fun i => v.ownBlock = some i) (wr.alloc (.cells #[.int .i64 (f k).pl, u] 78)) w2 := (Ch.refl _ _).grown h3 (fun i hi => Or.inl hi)
  have off : ∀ i c, (wr.alloc (.cells #[.int .i64 (f k).pl, u] 78)).heap[i]? = some (.cells c /-t-/5 (0, 0)) → ¬ v.ownBlock = some i := fun i c hc e => by
    obtain ⟨_, c2, hc2⟩ := own_at (own_gr h.own k1) e
    exact cells_ne hc2 hc (by decide) rfl
  refine ⟨g, cap, w2, hr, h2, fun c hc => ?_, (h.ch.trans k1).new (k2.mono fun i _ hi => (own_at h.own hi).1)⟩
  by_cases q : c = k
  · subst q
    obtain ⟨cc, hcc⟩ := hu1.blk
    exact ⟨sb, so, sC, by rw [up_same]; exact hu1.ch k2 (off sb cc hcc)⟩
  · obtain ⟨b, o, C, r⟩ := h.rows c (by omega)
    have r1 := r.ch k1 (fun x => x)
    obtain ⟨cc, hcc⟩ := r1.blk
    exact ⟨b, o, C, by rw [up_other _ _ q]; exact r1.ch k2 (off b cc hcc)⟩
/-- They may be read. -/
theorem PutsO.read {w wr : World} {A : Option Addr} {C k : Nat} {f : Nat → PutP} {s : Nat → Value} (h : PutsO w wr (.slice A k C) k f s) (hk : k ≤ 140737488351232) : PutsV wr (fun i => w.heap.size ≤ i ∧ i < wr.heap.size) A k f := by
  refine ⟨hk, fun h0 => ?_⟩
  rcases h.own.2 with ⟨_, q⟩ | ⟨g, cap, cur, e, hb, hg, _⟩
  · omega
  · injection e with e _ _
    subst e
    refine ⟨g, 0, rfl, ⟨hb, blk_lt hg⟩, fun c hc => ?_⟩
    obtain ⟨sb, so, sC, r⟩ := h.rows c hc
    obtain ⟨cc, hcc⟩ := r.blk
    obtain ⟨g0, g1⟩ := putL_get (f := f) (s := s) hc
    have c0 := World.ownsRow.cells h.own (g := g) rfl _ _ g0
    have c1 := World.ownsRow.cells h.own (g := g) rfl _ _ g1
    rw [add_pl] at c0 c1
    exact ⟨sb, so, sC, c0, by rw [← r.eq]; exact c1, r.row, ⟨r.lo, blk_lt hcc⟩, blk_lt hcc⟩
#print axioms slice_put
#print axioms PutsO.app
#print axioms PutsO.read
end Go.Proofs.Ytjdknebifcdicaa
namespace Go.Proofs.Ytjdknebifcdicaa
open Go.RowKit
set_option linter.unusedVariables false
set_option maxRecDepth 100000

/-- Behind w the device at B has turned to d (its blocks are those of F, and new ones), and the keeper at K has written c. -/
structure KpS (base : Nat) (F : Nat → Prop) (w wr : World) (B K : Nat) (d : Dev) (c : Nat) : Prop where
  dev : ∃ p : Ph, p.B = B ∧ DevIs base wr p d ∧ ∀ i, Foot p d i → F i ∨ w.heap.size ≤ i
  kp : wr.heap[K]? = some (.cells #[.pointer (some ⟨B, 0, none⟩), .int .i64 (c : Int)] 110 (0, 0))
  ch : Ch (fun i => F i ∨ i = K) w wr
/-- Where the device's blocks, and the keeper, lie. -/
structure KpF (base : Nat) (F : Nat → Prop) (w : World) (K : Nat) : Prop where
  le : base ≤ w.heap.size
  low : ∀ i, F i → base ≤ i ∧ i < w.heap.size
  off : ¬ F K
  lt : K < w.heap.size
theorem Ch.via {S T U : Nat → Prop} {a b c : World} (h : Ch S a b) (k : Ch T b c) (hS : ∀ i, i < a.heap.size → S i → U i) (hT : ∀ i, i < a.heap.size → T i → U i) : Ch U a c :=
  ⟨k.os.trans h.os, k.tape.trans h.tape, k.output.trans h.output, Nat.le_trans h.size k.size, fun i hi hU => (k.block i (Nat.lt_of_lt_of_le hi h.size) (fun x => hU (hT i hi x))).trans (h.block i hi (fun x => hU (hS i hi x)))⟩
theorem read_bytes {base : Nat} {w : World} {p : Ph} {d : Dev} (h : DevIs base w p d) (a : Int) : Bytes (readL d a) (readZ d a) := fun c hc => by
  unfold readL at hc
  by_cases q : readE d a = 0
  · rw [if_pos q] at hc
    by_cases q2 : openE d a = 0
    · obtain ⟨_, k, rfl, hk⟩ := openE_ok q2
      unfold readZ
      rw [Int.toNat_natCast]
      cases hl : lastW d.W k with
      | none => exact h.byt k c hk hc
      | some x => exact (h.wok x (scan_mem hl).1).2 c hc
    · unfold readE at q; rw [if_neg q2] at q; exact (q2 q).elim
  · rw [if_neg q] at hc; omega
/-! ### variables of two cells -/
/-- A value is laid into a variable of its own. -/
structure BoxR (w w1 : World) (H : Nat) (cs : Array Value) (t : TypeId) : Prop where
  al : w.alloc (.cells cs t) = w1
  sz : w.heap.size = H
  cx : w1.heap[H]? = some (.cells cs t (0, 0))
  ch : Ch (fun _ => False) w w1
theorem boxR (w : World) (cs : Array Value) (t : TypeId) : ∃ w1 H, BoxR w w1 H cs t := ⟨_, _, rfl, rfl, heap_alloc_new w _, (Ch.refl _ w).alloc _ _⟩
/-- A variable is made, and a value laid into it. -/
structure VarR (w wz wx : World) (H : Nat) (zs cs : Array Value) (t : TypeId) : Prop where
  al : w.alloc (.cells zs t) = wz
  sz : w.heap.size = H
  st : (storeVar t ⟨H, 0, none⟩ (.agg cs)).run Try.prog wz = .ok () wx
  cx : wx.heap[H]? = some (.cells cs t (0, 0))
  ch : Ch (fun _ => False) w wx
theorem zero_put (w : World) : (zeroValue 78).run Try.prog w = .ok (.agg #[.int .i64 0, .slice none 0 0]) w := by kernel_rfl
theorem zero_kp (w : World) : (zeroValue 110).run Try.prog w = .ok (.agg #[.pointer none, .int .i64 0]) w := by kernel_rfl
theorem size_put : (Try.prog.info? 78).map (·.size) = some 2 := by kernel_rfl
theorem size_kp : (Try.prog.info? 110).map (·.size) = some 2 := by kernel_rfl
theorem varR {t : TypeId} {u v x y : Value} (ht : (Try.prog.info? t).map (·.size) = some 2) (hx : x.oneCell' = true) (hy : y.oneCell' = true) (w : World) : ∃ wz wx H, VarR w wz wx H #[u, v] #[x, y] t :=
  ⟨_, w.alloc (.cells #[x, y] t), w.heap.size, rfl, rfl, run_storeVar_new (P := Try.prog) w _ _ _ ht rfl (all_oneCell_toArray (cs := [x, y]) fun u hu => by
    rcases List.mem_cons.1 hu with rfl | hu
    · exact hx
    · rw [List.mem_singleton.1 hu]; exact hy), heap_alloc_new _ _, (Ch.refl _ w).alloc _ _⟩
section
variable {base : Nat} {F : Nat → Prop} {w wr w' : World} {B K c : Nat} {d d' : Dev}
theorem KpS.gr (h : KpS base F w wr B K d c) (k : Ch (fun _ => False) wr w') : KpS base F w w' B K d c := by
  obtain ⟨p, h1, h2, h3⟩ := h.dev
  exact ⟨⟨p, h1, h2.gr k, h3⟩, (k.block K (blk_lt h.kp) (fun f => f)).trans h.kp, h.ch.via k (fun _ _ x => x) (fun _ _ f => f.elim)⟩
theorem KpS.c0 (h : KpS base F w wr B K d c) : wr.cell? ⟨K, 0, none⟩ = some (.pointer (some ⟨B, 0, none⟩)) := blk_cell h.kp
theorem KpS.c1 (h : KpS base F w wr B K d c) : wr.cell? ⟨K, 1, none⟩ = some (.int .i64 (c : Int)) := blk_cell h.kp
theorem KpS.fr (h : KpS base F w wr B K d c) (i : Nat) : wr.frozen? ⟨K, i, none⟩ = false := blk_frozen h.kp
theorem KpS.then (h : KpS base F w wr B K d c) (hF : KpF base F w K) {p p' : Ph} (h1 : p.B = B) (h3 : ∀ i, Foot p d i → F i ∨ w.heap.size ≤ i) (q1 : p'.B = p.B) (q2 : DevIs base w' p' d') (q3 : ∀ i, Foot p' d' i → Foot p d i ∨ wr.heap.size ≤ i) (q4 : Ch (Foot p d) wr w') : KpS base F w w' B K d' c := by
  refine ⟨⟨p', q1.trans h1, q2, fun i hi => (q3 i hi).elim (h3 i) fun x => Or.inr (Nat.le_trans h.ch.size x)⟩, (q4.block K (blk_lt h.kp) fun x => ?_).trans h.kp, h.ch.via q4 (fun _ _ x => x) fun i hi x => Or.inl ((h3 i x).elim id fun y => by omega)⟩
  have := hF.lt
  exact (h3 K x).elim hF.off fun y => by omega
theorem KpS.run {r : Value} {f : FuncId} {args : Array Value} (h : KpS base F w wr B K d c) (hF : KpF base F w K) (g : ∀ p : Ph, p.B = B → DevIs base wr p d → (∀ i, Foot p d i → F i ∨ w.heap.size ≤ i) → Calls Try.prog f args wr (DPost base p d d' r wr)) :
    Calls Try.prog f args wr fun e w' => e = .returned r ∧ KpS base F w w' B K d' c := by
  obtain ⟨p, h1, h2, h3⟩ := h.dev
  refine (g p h1 h2 h3).mono ?_
  rintro e w' ⟨rfl, p', q1, q2, q3, q4⟩
  exact ⟨rfl, h.then hF h1 h3 q1 q2 q3 q4⟩
/-- Bytes of before stand. -/
theorem KpS.row {b o C n : Nat} {z : Nat → Nat} (h : KpS base F w wr B K d c) (hR : RowV w (.slice (some ⟨b, o, none⟩) n C) n z) (hb : ¬ F b) (hk : b ≠ K) : RowV wr (.slice (some ⟨b, o, none⟩) n C) n z :=
  hR.ch' h.ch fun x => x.elim hb hk
theorem KpS.write {b o C n t : Nat} {a : Int} {z : Nat → Nat} (h : KpS base F w wr B K d c) (hF : KpF base F w K) (hR : RowV w (.slice (some ⟨b, o, none⟩) n C) n z) (hb : ¬ F b) (hk : b ≠ K) (hb2 : b < w.heap.size) (hl : Lim d t) (ht : t ≤ 1000000) :
    Calls Try.prog 92 #[.pointer (some ⟨B, 0, none⟩), .int .i64 a, .slice (some ⟨b, o, none⟩) n C] wr fun e w' => e = .returned (.int .i64 (writeE d a n)) ∧ KpS base F w w' B K (writeD d a n z) c :=
  h.run hF fun p hp h2 h3 => by
    rw [← hp]
    exact write_any base p d a b o n C z wr h2 (h.row hR hb hk) (fun f => (h3 b f).elim hb fun e => by omega) (by have := hl.ops; omega) (by have := hl.W; omega) (fun a => by have := hl.drops a; omega)
theorem KpS.flush {t : Nat} (h : KpS base F w wr B K d c) (hF : KpF base F w K) (hl : Lim d t) (ht : t ≤ 1000000) :
    Calls Try.prog 93 #[.pointer (some ⟨B, 0, none⟩)] wr fun e w' => e = .returned (.int .i64 (flushE d)) ∧ KpS base F w w' B K (flushD d) c :=
  h.run hF fun p hp h2 h3 => by
    rw [← hp]
    exact flush_any base p d wr h2 (by have := hl.W; omega)
theorem KpS.read {t : Nat} {a : Int} (h : KpS base F w wr B K d c) (hF : KpF base F w K) (hl : Lim d t) (ht : t ≤ 1000000) :
    Calls Try.prog 42 #[.pointer (some ⟨B, 0, none⟩), .int .i64 a] wr fun e w' => ∃ A C, e = .returned (.tuple #[.slice A (readL d a) C, .int .i64 (readE d a)]) ∧ RowV w' (.slice A (readL d a) C) (readL d a) (readZ d a) ∧ KpS base F w w' B K (readD d a) c := by
  obtain ⟨p, h1, h2, h3⟩ := h.dev
  refine (h1 ▸ read_any base p d a wr h2 (by have := hl.ops; omega) (by have := hl.W; omega)).mono ?_
  rintro e w' ⟨v, rfl, e1, e2, e3⟩
  have hr := ownsRow_rowV e2 (by unfold readL; split <;> omega) (read_bytes h2 a)
  obtain ⟨A, C, rfl, _⟩ := id hr
  have hn : (readD d a).n = d.n := by unfold readD; split <;> rfl
  exact ⟨A, C, rfl, hr, h.then hF h1 h3 rfl e1 (fun i hi => Or.inl ((foot_n hn).1 hi)) e3⟩
/-- One more is written. -/
theorem KpS.more (h : KpS base F w wr B K d c) (hF : KpF base F w K) {x : Value} (hx : x = .int .i64 ((c + 1 : Nat) : Int)) : KpS base F w (wr.setCell ⟨K, 1, none⟩ x) B K d (c + 1) := by
  subst hx
  obtain ⟨p, h1, h2, h3⟩ := h.dev
  have k : Ch (fun i => i = K) wr (wr.setCell ⟨K, 1, none⟩ (.int .i64 ((c + 1 : Nat) : Int))) := Ch.setCell (S := fun i => i = K) (Ch.refl _ wr) (p := ⟨K, 1, none⟩) (Or.inl rfl) _
  refine ⟨⟨p, h1, h2.ch k fun i hi e => ?_, h3⟩, blk_set h.kp _, h.ch.via k (fun _ _ x => x) fun i _ x => Or.inr x⟩
  subst e
  have := hF.lt
  exact (h3 i hi).elim hF.off fun y => by omega
theorem KpS.put {X : Nat → Prop} {b o sb so sC : Nat} {P : PutP} (h : KpS base F w wr B K d c) (hp : PutIs w X b o sb so sC P) (hX : ∀ i, X i → ¬ F i ∧ i ≠ K) (hb : X b) :
    wr.cell? ⟨b, o, none⟩ = some (.int .i64 P.pl) ∧ wr.cell? ⟨b, o + 1, none⟩ = some (.slice (some ⟨sb, so, none⟩) P.n sC) :=
  ⟨h.ch.cell hp.c0 fun x => x.elim (hX b hb).1 (hX b hb).2, h.ch.cell hp.c1 fun x => x.elim (hX b hb).1 (hX b hb).2⟩
/-- The same, told of a later world: the blocks F and what is new by then. -/
def FN (F : Nat → Prop) (w wr : World) (i : Nat) : Prop := F i ∨ (w.heap.size ≤ i ∧ i < wr.heap.size)
theorem KpF.fn (hF : KpF base F w K) (k : w.heap.size ≤ wr.heap.size) : KpF base (FN F w wr) wr K :=
  ⟨Nat.le_trans hF.le k, fun i hi => hi.elim (fun x => ⟨(hF.low i x).1, Nat.lt_of_lt_of_le (hF.low i x).2 k⟩) fun x => ⟨Nat.le_trans hF.le x.1, x.2⟩, fun hi => hi.elim hF.off fun x => by have := hF.lt; omega, Nat.lt_of_lt_of_le hF.lt k⟩
theorem KpF.gr (hF : KpF base F w K) (k : w.heap.size ≤ w'.heap.size) : KpF base F w' K :=
  ⟨Nat.le_trans hF.le k, fun i hi => ⟨(hF.low i hi).1, Nat.lt_of_lt_of_le (hF.low i hi).2 k⟩, hF.off, Nat.lt_of_lt_of_le hF.lt k⟩
theorem KpS.now (h : KpS base F w wr B K d c) : KpS base (FN F w wr) wr wr B K d c := by
  obtain ⟨p, h1, h2, h3⟩ := h.dev
  exact ⟨⟨p, h1, h2, fun i hi => Or.inl ((h3 i hi).imp id fun x => ⟨x, (h2.foot hi).2⟩)⟩, h.kp, Ch.refl _ wr⟩
/-- Nothing old has turned, and nothing of it is the device's. -/
theorem KpS.reb (h : KpS base F w w B K d c) (k : Ch (fun _ => False) w w') : KpS base F w' w' B K d c := by
  obtain ⟨p, h1, h2, h3⟩ := h.dev
  exact ⟨⟨p, h1, h2.gr k, fun i hi => Or.inl ((h3 i hi).elim id fun x => by have := (h2.foot hi).2; omega)⟩, (k.block K (blk_lt h.kp) (fun f => f)).trans h.kp, Ch.refl _ w'⟩
theorem KpS.since {c' : Nat} (h : KpS base F w' wr B K d c') (k : Ch (fun _ => False) w w') : KpS base F w wr B K d c' := by
  obtain ⟨p, h1, h2, h3⟩ := h.dev
  exact ⟨⟨p, h1, h2, fun i hi => (h3 i hi).imp id fun x => Nat.le_trans k.size x⟩, h.kp, k.via h.ch (fun _ _ f => f.elim) fun _ _ x => x⟩
theorem KpS.from {c' : Nat} (h : KpS base F w wr B K d c) (q : KpS base (FN F w wr) wr w' B K d' c') : KpS base F w w' B K d' c' := by
  obtain ⟨p, h1, h2, h3⟩ := q.dev
  refine ⟨⟨p, h1, h2, fun i hi => (h3 i hi).elim (fun x => x.imp id fun y => y.1) fun x => Or.inr (Nat.le_trans h.ch.size x)⟩, q.kp, h.ch.via q.ch (fun _ _ x => x) fun i hi x => ?_⟩
  rcases x with (x | x) | x
  · exact Or.inl x
  · omega
  · exact Or.inr x
theorem KpS.lift {r : Value} {f : FuncId} {args : Array Value} {c' : Nat} (h : KpS base F w wr B K d c) (g : Calls Try.prog f args wr fun e w' => e = .returned r ∧ KpS base (FN F w wr) wr w' B K d' c') :
    Calls Try.prog f args wr fun e w' => e = .returned r ∧ KpS base F w w' B K d' c' :=
  g.mono fun _ _ ⟨he, q⟩ => ⟨he, h.from q⟩
/-- What the call has left, told of the world ahead of the keeper. -/
theorem KpS.post {w0 : World} {p : Ph} {d0 : Dev} {r : Value} (h : KpS base (Foot p d0) w wr p.B K d c) (k : Ch (fun _ => False) w0 w) (h0 : w0.heap.size ≤ K) : DPost base p d0 d r w0 (.returned r) wr := by
  obtain ⟨q, h1, h2, h3⟩ := h.dev
  exact ⟨rfl, q, h1, h2, fun i hi => (h3 i hi).imp id fun x => Nat.le_trans k.size x, k.via h.ch (fun _ _ f => f.elim) fun i hi x => x.elim id fun e => by omega⟩
end
#print axioms KpS.read
#print axioms KpS.post
end Go.Proofs.Ytjdknebifcdicaa
namespace Go.Proofs.Ytjdknebifcdicaa
open Go.RowKit
set_option linter.unusedVariables false
set_option maxRecDepth 100000

theorem size_su : (Try.prog.info? 25).map (·.size) = some 12 := by kernel_rfl
theorem one_su (x : Sp) : (supC x).all (·.oneCell') = true := by unfold supC; simp [Value.oneCell']
theorem zero_su (w : World) : (zeroValue 25).run Try.prog w = .ok (.agg (supC sp0)) w := by kernel_rfl
theorem build_su (w : World) : (Instr.build 25 #[]).run Try.prog w = .ok (.agg (supC sp0)) w := by kernel_rfl
theorem load_su {w : World} {H : Nat} {x : Sp} (h : w.heap[H]? = some (.cells (supC x) 25 (0, 0))) : (loadVar 25 ⟨H, 0, none⟩).run Try.prog w = .ok (.agg (supC x)) w :=
  run_loadVar_row w H _ _ (supC x) (0, 0) _ h Try.underlying25 rfl (show _ = some 12 by kernel_rfl)
theorem store_su {w : World} {H : Nat} {a b : Sp} (h : w.heap[H]? = some (.cells (supC a) 25 (0, 0))) :
    (storeVar 25 ⟨H, 0, none⟩ (.agg (supC b))).run Try.prog w = .ok () (w.setRow H (supC b)) :=
  run_storeVar_row w H _ _ (supC a) (supC b) h size_su rfl (one_su b)
/-- One laid over what is in a variable. -/
structure StS (w w1 : World) (H : Nat) (b : Sp) : Prop where
  st : (storeVar 25 ⟨H, 0, none⟩ (.agg (supC b))).run Try.prog w = .ok () w1
  cx : w1.heap[H]? = some (.cells (supC b) 25 (0, 0))
  ch : Ch (fun j => j = H) w w1
theorem stS {w : World} {H : Nat} {a : Sp} (b : Sp) (h : w.heap[H]? = some (.cells (supC a) 25 (0, 0))) : ∃ w1, StS w w1 H b :=
  ⟨_, store_su h, setRow_heap w H (supC a) _ _ (0, 0) h, (Ch.refl (fun j => j = H) w).setRow (g := H) (Or.inl rfl) _⟩
/-- A variable of its own, zero. -/
structure ZeS (w w1 : World) (H : Nat) : Prop where
  al : w.alloc (.cells (supC sp0) 25) = w1
  sz : w.heap.size = H
  cx : w1.heap[H]? = some (.cells (supC sp0) 25 (0, 0))
  ch : Ch (fun _ => False) w w1
theorem zeS (w : World) : ∃ w1 H, ZeS w w1 H := ⟨_, _, rfl, rfl, heap_alloc_new w _, (Ch.refl _ w).alloc _ _⟩
/-- A variable of its own, made, and one laid into it. -/
theorem varS (x : Sp) (w : World) : ∃ wz wx H, VarR w wz wx H (supC sp0) (supC x) 25 :=
  ⟨_, w.alloc (.cells (supC x) 25), w.heap.size, rfl, rfl, run_storeVar_new (P := Try.prog) w _ _ _ size_su rfl (one_su x), heap_alloc_new _ _, (Ch.refl _ w).alloc _ _⟩
/-- One stands in a variable. -/
def SuX (w : World) (H : Nat) (x : Sp) : Prop := (fun w' => w'.cell? ⟨H, 0, none⟩ = some (.int .i64 (x).vol) ∧ w'.cell? ⟨H, 1, none⟩ = some (.int .i64 (x).gen) ∧ w'.cell? ⟨H, 2, none⟩ = some (.int .i64 (x).ep) ∧ w'.cell? ⟨H, 3, none⟩ = some (.int .i64 (x).area) ∧ w'.cell? ⟨H, 4, none⟩ = some (.int .i64 (x).snap) ∧ w'.cell? ⟨H, 5, none⟩ = some (.int .i64 (x).long) ∧ w'.cell? ⟨H, 6, none⟩ = some (.int .i64 (x).start) ∧ w'.cell? ⟨H, 7, none⟩ = some (.int .i64 (x).chain) ∧ w'.cell? ⟨H, 8, none⟩ = some (.int .i64 (x).g.wal) ∧ w'.cell? ⟨H, 9, none⟩ = some (.int .i64 (x).g.st) ∧ w'.cell? ⟨H, 10, none⟩ = some (.int .i64 (x).g.k) ∧ w'.cell? ⟨H, 11, none⟩ = some (.int .i64 (x).g.m)) w
section
variable {w w' : World} {H : Nat} {x : Sp}
theorem su_x (h : w.heap[H]? = some (.cells (supC x) 25 (0, 0))) : SuX w H x :=
  ⟨blk_cell h, blk_cell h, blk_cell h, blk_cell h, blk_cell h, blk_cell h, blk_cell h, blk_cell h, blk_cell h, blk_cell h, blk_cell h, blk_cell h⟩
theorem SuX.ch {S : Nat → Prop} (h : SuX w H x) (k : Ch S w w') (hS : ¬ S H) : SuX w' H x := by
  obtain ⟨h0, h1, h2, h3, h4, h5, h6, h7, h8, h9, h10, h11⟩ := h
  exact ⟨k.cell h0 hS, k.cell h1 hS, k.cell h2 hS, k.cell h3 hS, k.cell h4 hS, k.cell h5 hS, k.cell h6 hS, k.cell h7 hS, k.cell h8 hS, k.cell h9 hS, k.cell h10 hS, k.cell h11 hS⟩
theorem SuX.gr (h : SuX w H x) (k : Ch (fun _ => False) w w') : SuX w' H x := h.ch k (fun f => f)
theorem SuX.drew (h : SuX w H x) : SuX w.drew H x := h.gr ((Ch.refl _ w).drew)
theorem SuX.all (h : SuX w H x) : (fun w' => w'.cell? ⟨H, 0, none⟩ = some (.int .i64 (x).vol) ∧ w'.cell? ⟨H, 1, none⟩ = some (.int .i64 (x).gen) ∧ w'.cell? ⟨H, 2, none⟩ = some (.int .i64 (x).ep) ∧ w'.cell? ⟨H, 3, none⟩ = some (.int .i64 (x).area) ∧ w'.cell? ⟨H, 4, none⟩ = some (.int .i64 (x).snap) ∧ w'.cell? ⟨H, 5, none⟩ = some (.int .i64 (x).long) ∧ w'.cell? ⟨H, 6, none⟩ = some (.int .i64 (x).start) ∧ w'.cell? ⟨H, 7, none⟩ = some (.int .i64 (x).chain) ∧ w'.cell? ⟨H, 8, none⟩ = some (.int .i64 (x).g.wal) ∧ w'.cell? ⟨H, 9, none⟩ = some (.int .i64 (x).g.st) ∧ w'.cell? ⟨H, 10, none⟩ = some (.int .i64 (x).g.k) ∧ w'.cell? ⟨H, 11, none⟩ = some (.int .i64 (x).g.m)) w := h
end
/-- A result that lies in a variable, and one more. -/
theorem results_su {fn : Func} {p u : Tmp} (h : fn.results = #[.cell p 25, .tmp u]) (tmps : Array Value) (w : World) (H : Nat) (x : Sp) (hp : tmps.getD p undef = .pointer (some ⟨H, 0, none⟩)) (hg : w.heap[H]? = some (.cells (supC x) 25 (0, 0))) :
    (results fn tmps).run Try.prog w = .ok (.tuple #[.agg (supC x), tmps.getD u undef]) w := by
  rw [results_cell_tmp h, hp]
  simp [asAddr, load_su hg]
#print axioms results_su
#print axioms su_x
#print axioms varS
end Go.Proofs.Ytjdknebifcdicaa
