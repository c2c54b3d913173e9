/-
  What stands in a log's slots, and what is told of it: in plain words. ring.Follow, where something may not be: no tail, and ErrArg. ring's Ring: its cells (Rg, rgC), Next, Chain, Cut, count.
-/
import Derived.Test.YteleknojohnlbaaGreatMg40
namespace Go.Proofs.YteleknojohnlbaaGreat
open Go.RowKit
set_option linter.unusedVariables false
set_option maxRecDepth 100000

/-- The same bytes tell no two pieces. -/
theorem tells_one {n : Nat} {z : Nat → Nat} {vol vol' : Int} {g g' : Ge} {mir mir' slot slot' : Int} {p q : Pn} (h1 : TellsR n z vol g mir slot p) (h2 : TellsR n z vol' g' mir' slot' q) : p = q := by
  obtain ⟨Y, hYe⟩ : ∃ Y : Pn → Prop, Y = fun y => ∃ vol g mir slot, TellsR n z vol g mir slot y := ⟨_, rfl⟩
  have hY : ∀ y, Y y → ∃ vol g mir slot, TellsR n z vol g mir slot y := fun y hy => by rw [hYe] at hy; exact hy
  have hM : ∀ y, Y y → mayP y = true := fun y hy => by obtain ⟨_, _, _, _, h⟩ := hY y hy; exact h.may
  have yp : Y p := by rw [hYe]; exact ⟨_, _, _, _, h1⟩
  have yq : Y q := by rw [hYe]; exact ⟨_, _, _, _, h2⟩
  have b0 := BackR.first hY undef
  obtain ⟨k0, e0, r0⟩ := Cod.rd_some (openB n z undef).len (openB n z undef).z
  obtain ⟨b1, f0⟩ := b0.next (by omega) hM r0
  obtain ⟨k1, e1, r1⟩ := Cod.rd_some _ _
  obtain ⟨b2, f1⟩ := b1.next (by omega) hM r1
  obtain ⟨k2, e2, r2⟩ := Cod.rd_some _ _
  obtain ⟨b3, f2⟩ := b2.next (by omega) hM r2
  obtain ⟨k3, e3, r3⟩ := Cod.rd_some _ _
  obtain ⟨b4, f3⟩ := b3.next (by omega) hM r3
  obtain ⟨k4, e4, r4⟩ := Cod.rd_some _ _
  have f4 := b4.last hM r4
  have s1 := h1.back undef
  have s2 := h2.back undef
  obtain ⟨ps, pe, pf, pcn, pi, po, pB⟩ := p
  obtain ⟨qs, qe, qf, qcn, qi, qo, qB⟩ := q
  have a1 : ps = qs := s1.seq.symm.trans s2.seq
  have a2 : pe = qe := s1.epoch.symm.trans s2.epoch
  have a3 : pf = qf := (f0 _ yp).2.symm.trans (f0 _ yq).2
  have a4 : pcn = qcn := (f1 _ yp).2.symm.trans (f1 _ yq).2
  have a5 : pi = qi := (f2 _ yp).2.symm.trans (f2 _ yq).2
  have a6 : po = qo := (f3 _ yp).2.symm.trans (f3 _ yq).2
  have a7 : pB = qB := (f4 _ yp).2.symm.trans (f4 _ yq).2
  rw [a1, a2, a3, a4, a5, a6, a7]
/-! ### what stands in a slot -/
inductive Ct where
  | free
  | pc (q : Pn)
  | bad
def fbk (vol a : Int) : Bk := ⟨1, vol, a, 0, 0, undef, 0, fun _ => 0⟩
theorem fbk_may {vol a : Int} (hv : 0 ≤ vol ∧ vol ≤ 4294967295) (ha : 0 ≤ a ∧ a ≤ 4294967295) : mayB (fbk vol a) = true := by
  refine mayB_iff.2 ⟨⟨by show 1 ≤ (1 : Int) ∧ (1 : Int) ≤ 4; omega, hv, ha, by show 0 ≤ (0 : Int) ∧ (0 : Int) ≤ _; omega, by show 0 ≤ (0 : Int) ∧ (0 : Int) ≤ _; omega⟩, ?_⟩
  exact Nat.zero_le _
def ShowsC (vol : Int) (g : Ge) (mir slot : Int) (n : Nat) (z : Nat → Nat) : Ct → Prop
  | .free => n = 256 ∧ ∀ c, c < 256 → z c = sectZ (fbk vol (addrR g mir slot)) c
  | .pc q => TellsR n z vol g mir slot q
  | .bad => opensB n z = false
def tel : Ct → Option Pn
  | .pc q => some q
  | _ => none
def clC : Ct → Bool
  | .bad => false
  | _ => true
theorem shows_tell {vol : Int} {g : Ge} {mir slot : Int} {n : Nat} {z : Nat → Nat} {ct : Ct} (hv : 0 ≤ vol ∧ vol ≤ 4294967295) (ha : 0 ≤ addrR g mir slot ∧ addrR g mir slot ≤ 4294967295) (h : ShowsC vol g mir slot n z ct) : TellR n z vol g mir slot (tel ct) := by
  intro y
  cases ct with
  | free =>
    refine ⟨fun e => (by cases e), fun hy => ?_⟩
    obtain ⟨rfl, hz⟩ := h
    have h1 := (hy.back undef).kind
    have h2 := ((readB_at hz undef undef).trans (Go.Proofs.YteleknojohnlbaaGreat.back (fbk_may hv ha) undef)).kind
    rw [h2] at h1
    exact absurd h1 (by show ¬ (1 : Int) = 3; decide)
  | pc q =>
    refine ⟨fun e => by cases e; exact h, fun hy => ?_⟩
    have h' : TellsR n z vol g mir slot q := h
    have s1 := h'.back undef
    have s2 := hy.back undef
    -- the same sector tells the same piece
    exact congrArg some (tells_one h' hy)
  | bad =>
    refine ⟨fun e => (by cases e), fun hy => ?_⟩
    have h' : opensB n z = false := h
    rw [hy.opens] at h'
    cases h'
theorem shows_clean {vol : Int} {g : Ge} {mir slot : Int} {n : Nat} {z : Nat → Nat} {ct : Ct} (hv : 0 ≤ vol ∧ vol ≤ 4294967295) (ha : 0 ≤ addrR g mir slot ∧ addrR g mir slot ≤ 4294967295) (h : ShowsC vol g mir slot n z ct) : cleanB n z vol (addrR g mir slot) = clC ct := by
  cases ct with
  | free =>
    obtain ⟨rfl, hz⟩ := h
    have s := (readB_at hz undef undef).trans (Go.Proofs.YteleknojohnlbaaGreat.back (fbk_may hv ha) undef)
    refine clean_yes ?_ s.vol s.addr
    rw [opensB_eq hz]
    exact opensB_own (fbk_may hv ha)
  | pc q => exact clean_tells h
  | bad => exact clean_no h
/-! ### a log that was read -/
structure LogM (m : Mi) (C : Nat → Nat → Ct) : Prop where
  ok : m.g.Ok
  vol : 0 ≤ m.vol ∧ m.vol ≤ 4294967295
  shows : ∀ c s : Nat, c < 2 → s < m.g.W → ShowsC m.vol m.g.ge (c : Int) (s : Int) (m.N c s) (m.Z c s) (C c s)
theorem adr_ok {g : Gn} (h : g.Ok) {c s : Nat} (hc : c < 2) (hs : s < g.W) : 0 ≤ addrR g.ge (c : Int) (s : Int) ∧ addrR g.ge (c : Int) (s : Int) ≤ 4294967295 := by
  have h1 := addr_in (ok_may h) (mir := (c : Int)) (s := (s : Int)) ⟨by omega, by omega⟩ ⟨by omega, by show (s : Int) < (g.W : Int); omega⟩
  omega
section
variable {m : Mi} {C : Nat → Nat → Ct}
theorem LogM.slot (h : LogM m C) (s : Nat) : s % m.g.W < m.g.W := Nat.mod_lt _ (by have := h.ok.w1; omega)
theorem LogM.oF (h : LogM m C) (s : Nat) {c : Nat} (hc : c < 2) : Go.Proofs.YteleknojohnlbaaGreat.oF m s c = tel (C c (s % m.g.W)) :=
  (oF_eq (shows_tell h.vol (adr_ok h.ok hc (h.slot s)) (h.shows c _ hc (h.slot s)))).symm
/-- The candidates of a number, and whether a slot is clean. -/
def cdC (W : Nat) (C : Nat → Nat → Ct) (s : Nat) : List Pn := candR (atS (tel (C 0 (s % W))) (s : Int)) (atS (tel (C 1 (s % W))) (s : Int))
def clS (C : Nat → Nat → Ct) (q : Nat) : Bool := clC (C 0 q) || clC (C 1 q)
theorem LogM.cd (h : LogM m C) (s : Nat) : cdM m s = cdC m.g.W C s := by
  unfold cdM cdC
  rw [h.oF s (by omega), h.oF s (by omega)]
theorem LogM.cl (h : LogM m C) {q : Nat} (hq : q < m.g.W) : clM m q = clS C q := by
  have e0 := shows_clean h.vol (adr_ok h.ok (c := 0) (by omega) hq) (h.shows 0 q (by omega) hq)
  have e1 := shows_clean h.vol (adr_ok h.ok (c := 1) (by omega) hq) (h.shows 1 q (by omega) hq)
  unfold clM clS cleanM
  rw [e0, e1]
-- h.vol (adr_ok h.ok (c := 0) (by omega) hq) (h.shows 0 q (by omega) hq), shows_clean h.vol (adr_ok h.ok (c := 1) (by omega) hq) (h.shows 1 q (by omega) hq)]
end
/-! ### the run that is taken -/
def endA : Pn → List Pn → Pn
  | a, [] => a
  | _, p :: P => endA p P
def endS (sm : Pn → Int) : Int → List Pn → Int
  | s, [] => s
  | _, p :: P => endS sm (sm p) P
theorem endA_app (a : Pn) : ∀ (P Q : List Pn), endA a (P ++ Q) = endA (endA a P) Q
  | [], Q => rfl
  | p :: P, Q => by show endA p (P ++ Q) = endA (endA p P) Q; exact endA_app p P Q
theorem endS_app (sm : Pn → Int) (s : Int) : ∀ (P Q : List Pn), endS sm s (P ++ Q) = endS sm (endS sm s P) Q
  | [], Q => rfl
  | p :: P, Q => by show endS sm (sm p) (P ++ Q) = endS sm (endS sm (sm p) P) Q; exact endS_app sm (sm p) P Q
/-- They are taken, one behind the other, from number k on. -/
def Takes (W : Nat) (C : Nat → Nat → Ct) (sm : Pn → Int) : Pn → Int → Nat → List Pn → Prop
  | _, _, _, [] => True
  | a, s, k, p :: P => (cdC W C k).find? (fitsP a s) = some p ∧ Takes W C sm p (sm p) (k + 1) P
theorem takes_app {W : Nat} {C : Nat → Nat → Ct} {sm : Pn → Int} : ∀ {P Q : List Pn} {a : Pn} {s : Int} {k : Nat}, Takes W C sm a s k P → Takes W C sm (endA a P) (endS sm s P) (k + P.length) Q → Takes W C sm a s k (P ++ Q)
  | [], Q, a, s, k, _, h => h
  | p :: P, Q, a, s, k, h, h2 => ⟨h.1, takes_app h.2 (by rw [List.length_cons] at h2; rw [show k + 1 + P.length = k + (P.length + 1) by omega]; exact h2)⟩
/-- Here the run ends, and it is told that it does. -/
def StopsC (W : Nat) (C : Nat → Nat → Ct) (a : Pn) (s : Int) (k : Nat) : Prop := (cdC W C k).find? (fitsP a s) = none ∧ clS C (k % W) = true
theorem run_takes {m : Mi} {C : Nat → Nat → Ct} (h : LogM m C) : ∀ {P : List Pn} {f : Nat} {a : Pn} {s : Int} {k : Nat}, Takes m.g.W C (sumM m) a s k P → P.length ≤ f →
    runR m f a s k = (P ++ (runR m (f - P.length) (endA a P) (endS (sumM m) s P) (k + P.length)).1, (runR m (f - P.length) (endA a P) (endS (sumM m) s P) (k + P.length)).2)
  | [], f, a, s, k, _, _ => rfl
  | p :: P, f + 1, a, s, k, ht, hf => by
    rw [run_some (by rw [h.cd]; exact ht.1), run_takes h ht.2 (by rw [List.length_cons] at hf; omega), List.length_cons, show f + 1 - (P.length + 1) = f - P.length by omega, show k + 1 + P.length = k + (P.length + 1) by omega]
    rfl
theorem run_ends {m : Mi} {C : Nat → Nat → Ct} (h : LogM m C) {P : List Pn} {f : Nat} {a : Pn} {s : Int} {k : Nat} (ht : Takes m.g.W C (sumM m) a s k P) (hf : P.length ≤ f) (he : P.length = f ∨ StopsC m.g.W C (endA a P) (endS (sumM m) s P) (k + P.length)) : runR m f a s k = (P, false) := by
  rw [run_takes h ht hf]
  by_cases q : P.length = f
  · rw [q, Nat.sub_self, run_zero, List.append_nil]
  · obtain ⟨e1, e2⟩ := he.resolve_left q
    obtain ⟨f', hf'⟩ : ∃ f', f - P.length = f' + 1 := ⟨f - P.length - 1, by omega⟩
    rw [hf', run_none (by rw [h.cd]; exact e1), h.cl (h.slot _), e2, List.append_nil]
    rfl
/-- Where both sectors of a slot that is wanted are bad. -/
theorem run_hurt {m : Mi} {C : Nat → Nat → Ct} (h : LogM m C) {P : List Pn} {f : Nat} {a : Pn} {s : Int} {k : Nat} (ht : Takes m.g.W C (sumM m) a s k P) (hf : P.length < f) (he : clS C ((k + P.length) % m.g.W) = false) : (runR m f a s k).2 = true := by
  rw [run_takes h ht (by omega)]
  obtain ⟨f', hf'⟩ : ∃ f', f - P.length = f' + 1 := ⟨f - P.length - 1, by omega⟩
  obtain ⟨e1, e2⟩ : clC (C 0 ((k + P.length) % m.g.W)) = false ∧ clC (C 1 ((k + P.length) % m.g.W)) = false := by
    unfold clS at he
    exact Bool.or_eq_false_iff.1 he
  have t0 : tel (C 0 ((k + P.length) % m.g.W)) = none := by
    cases hc : C 0 ((k + P.length) % m.g.W) <;> rw [hc] at e1 <;> first | rfl | cases e1
  have t1 : tel (C 1 ((k + P.length) % m.g.W)) = none := by
    cases hc : C 1 ((k + P.length) % m.g.W) <;> rw [hc] at e2 <;> first | rfl | cases e2
  have e3 : cdC m.g.W C (k + P.length) = [] := by unfold cdC; rw [t0, t1]; rfl
  rw [hf', run_none (by rw [h.cd, e3]; rfl), h.cl (h.slot _), he]
  rfl
/-! ### the transactions of a run -/
/-- All the pieces of one, in order. -/
def GoodTx (t : List Pn) : Prop := 0 < t.length ∧ ∀ (i : Nat) (q : Pn), t[i]? = some q → q.ix = (i : Int) ∧ q.ofn = (t.length : Int)
theorem good_whole {t L : List Pn} (h : GoodTx t) : wholeR (t ++ L) = t.length := by
  obtain ⟨h0, h1⟩ := h
  obtain ⟨p, hp⟩ : ∃ p, t[0]? = some p := ⟨t[0], List.getElem?_eq_getElem h0⟩
  have hp' : (t ++ L)[0]? = some p := by rw [List.getElem?_append_left h0]; exact hp
  obtain ⟨_, ho⟩ := h1 0 p hp
  have e : p.ofn.toNat = t.length := by rw [ho]; exact Int.toNat_natCast _
  rw [whole_some hp', e, if_pos]
  refine ⟨by rw [List.length_append]; omega, fun i hi => ?_⟩
  have hq : (t ++ L)[i]? = some t[i] := by rw [List.getElem?_append_left hi]; exact List.getElem?_eq_getElem hi
  obtain ⟨q1, q2⟩ := h1 i t[i] (List.getElem?_eq_getElem hi)
  rw [okAt_some hq, decide_eq_true q1, decide_eq_true (q2.trans ho.symm)]
  rfl
theorem lastS_end {sm : Pn → Int} : ∀ {t L : List Pn} {c : Int}, 0 < t.length → lastS sm (t ++ L) t.length c = endS sm c t
  | [p], L, c, _ => rfl
  | p :: q :: t, L, c, _ => by
    have ih := lastS_end (sm := sm) (t := q :: t) (L := L) (c := c) (by simp)
    show lastS sm (p :: (q :: t ++ L)) (t.length + 2) c = endS sm (sm q) t
    have e : lastS sm (p :: (q :: t ++ L)) (t.length + 2) c = lastS sm (q :: t ++ L) (t.length + 1) c := by
      unfold lastS
      show (match (p :: (q :: t ++ L))[t.length + 1]? with | some p => sm p | none => c) = (match (q :: t ++ L)[t.length]? with | some p => sm p | none => c)
      rw [List.getElem?_cons_succ]
    rw [e]
    exact ih
theorem end_txs {sm : Pn → Int} : ∀ (T : List (List Pn)) (L : List Pn) (acc : Tl), (∀ t ∈ T, GoodTx t) → wholeR L = 0 → endR sm (T.flatten ++ L).length (T.flatten ++ L) acc = ⟨acc.txs ++ T.map joinP, acc.next + (T.flatten.length : Int), endS sm acc.chain T.flatten⟩
  | [], L, acc, _, hL => by
    rw [List.flatten_nil, List.nil_append, endR_at, if_pos hL]
    simp [endS]
  | t :: T, L, acc, hT, hL => by
    have ht := hT t List.mem_cons_self
    have hw : wholeR ((t :: T).flatten ++ L) = t.length := by rw [List.flatten_cons, List.append_assoc]; exact good_whole ht
    rw [endR_at, hw, if_neg (by have := ht.1; omega)]
    have e1 : ((t :: T).flatten ++ L).drop t.length = T.flatten ++ L := by rw [List.flatten_cons, List.append_assoc, List.drop_left]
    have e2 : stepT sm ((t :: T).flatten ++ L) acc = ⟨acc.txs ++ [joinP t], acc.next + (t.length : Int), endS sm acc.chain t⟩ := by
      unfold stepT
      rw [hw]
      rw [List.flatten_cons, List.append_assoc, List.take_left, lastS_end ht.1]
    rw [e1, e2, end_txs T L _ (fun u hu => hT u (List.mem_cons_of_mem _ hu)) hL]
    rw [List.flatten_cons, List.length_append, endS_app]
    simp only [List.map_cons, List.append_assoc, List.singleton_append, Tl.mk.injEq, true_and, and_true]
    omega
theorem tail_txs {sm : Pn → Int} {T : List (List Pn)} {L : List Pn} {start chain : Int} (hT : ∀ t ∈ T, GoodTx t) (hL : wholeR L = 0) : tailR sm (T.flatten ++ L) start chain = ⟨T.map joinP, start + (T.flatten.length : Int), endS sm chain T.flatten⟩ := by
  unfold tailR
  rw [end_txs T L _ hT hL]
  rfl
#print axioms run_hurt
#print axioms tail_txs
end Go.Proofs.YteleknojohnlbaaGreat
namespace Go.Proofs.YteleknojohnlbaaGreat
open Go.RowKit
set_option linter.unusedVariables false
set_option maxRecDepth 100000
set_option linter.unusedSimpArgs false
attribute [local go_sem] Oper.semAt_some wide_fn wide_depth
def okF (vol : Int) (g : Ge) (start chain : Int) (n0 n1 : Nat) : Bool := mayG g && (wordsTo (wordsF vol start chain) 3 && (decide ((n0 : Int) = g.wal) && decide ((n1 : Int) = g.wal)))
def FolNo (w : World) (e : Ending) (w' : World) : Prop := e = .returned (.tuple #[.agg (tlC tl0 0 (.slice none 0 0)), .int .i64 1]) ∧ Ch (fun _ => False) w w'
/-- What region 2 lays. -/
structure NoF (w wx W3 : World) (T E : Nat) : Prop where
  st : (storeVar 40 ⟨T, 0, none⟩ (.agg (tlC tl0 0 (.slice none 0 0)))).run Tryz.prog wx = .ok () W3
  c3 : W3.cell? ⟨E, 0, none⟩ = some (.int .i64 0)
  f3 : W3.frozen? ⟨E, 0, none⟩ = false
  t : (W3.setCell ⟨E, 0, none⟩ (.int .i64 1)).heap[T]? = some (.cells (tlC tl0 0 (.slice none 0 0)) 40 (0, 0))
  e : (W3.setCell ⟨E, 0, none⟩ (.int .i64 1)).cell? ⟨E, 0, none⟩ = some (.int .i64 1)
  ch : Ch (fun _ => False) w (W3.setCell ⟨E, 0, none⟩ (.int .i64 1))
theorem noF {w w0 wx : World} {T E : Nat} (h0 : Ch (fun _ => False) w w0) (hT : w0.heap[T]? = some (.cells (tlC tl0 0 (.slice none 0 0)) 40 (0, 0))) (hE : w0.heap[E]? = some (.cells #[.int .i64 0] 28 (0, 0))) (hTE : T ≠ E) (hlo : w.heap.size ≤ T ∧ w.heap.size ≤ E) (k : Ch (fun _ => False) w0 wx) : ∃ W3, NoF w wx W3 T E := by
  have t1 := (k.block T (blk_lt hT) (fun f => f)).trans hT
  have e1 := (k.block E (blk_lt hE) (fun f => f)).trans hE
  obtain ⟨W3, h3⟩ := stTl tl0 0 t1 slV_nil
  have e3 := (h3.ch.block E (blk_lt e1) (by omega)).trans e1
  have k4 : Ch (fun i => i = E) W3 (W3.setCell ⟨E, 0, none⟩ (.int .i64 1)) := (Ch.refl (fun i => i = E) W3).setCell (p := ⟨E, 0, none⟩) (Or.inl rfl) _
  have e4 : (W3.setCell ⟨E, 0, none⟩ (.int .i64 1)).heap[E]? = some (.cells #[.int .i64 1] 28 (0, 0)) := blk_set (i := 0) e3 _
  exact ⟨W3, h3.st, blk_cell e3, blk_frozen e3, (k4.block T (blk_lt h3.cx) hTE).trans h3.cx, blk_cell e4, ch_then (h0.trans k) (T := fun i => i = T ∨ i = E) ((h3.ch.mono fun i _ q => Or.inl q).trans (k4.mono fun i _ q => Or.inr q)) fun i q => Or.inr (by omega)⟩
set_option maxHeartbeats 25600000 in
theorem rfollow_no (A0 A1 : Option Addr) (n0 n1 C0 C1 : Nat) (vol start chain : Int) (g : Ge) (w : World) (h : okF vol g start chain n0 n1 = false) :
    Calls Tryz.prog 21 #[.slice A0 n0 C0, .slice A1 n1 C1, .int .i64 vol, .agg (geC g), .int .i64 start, .int .i64 chain] w (FolNo w) := by
  obtain ⟨w1, G, hG⟩ := geR w g
  obtain ⟨w2, T, hT⟩ := boxR w1 (tlC tl0 0 (.slice none 0 0)) 40
  have HG := Lib.hid hG
  have HT := Lib.hid hT
  have HNO := Lib.hid h
  clear hG hT h
  refine (callsIn_wide (n := 9)).1 ?_
  refine callsIn_of_wp_marks Tryz.func21 rfl trivial ?_ rfl
  simp only [Tryz.ntmps21, List.size_toArray, List.length_cons, List.length_nil, Nat.reduceAdd, Nat.reduceSub, Array.replicate_succ, Array.replicate_zero, List.push_toArray, List.append_toArray, List.nil_append, List.cons_append]
  gi_upto_region 0 with fail
  refine wpIn_wide.2 ?_
  go_wp2_with (first
    | ((with_reducible refine wpList_isOp (.box 23 (.tmp 3)) rfl ?_); refine wpList_boxing _ w1 rfl 23 (.tmp 3) rfl (geC g) G rfl (by exact HG.out.sz) (by exact HG.out.al) ?_)
    | ((with_reducible refine wpList_isOp (.alloc 40) rfl ?_); refine wpList_making _ w2 rfl 40 rfl (tlC tl0 0 (.slice none 0 0)) T (zero_tl _) (by exact HT.out.sz) (by exact HT.out.al) ?_)
    | fail)
  obtain ⟨w3, hw3⟩ : ∃ w3, w3 = w2.alloc (.cells #[.int .i64 0] 28) := ⟨_, rfl⟩
  rw [← hw3]
  obtain ⟨E, hE⟩ : ∃ E, E = w2.heap.size := ⟨_, rfl⟩
  rw [← hE]
  have HE3 : Hid (w3.heap[E]? = some (.cells #[.int .i64 0] 28 (0, 0)) ∧ w2.heap.size = E ∧ Ch (fun _ => False) w2 w3) := Lib.hid ⟨by rw [hw3, hE]; exact heap_alloc_new _ _, hE.symm, by rw [hw3]; exact (Ch.refl _ w2).alloc _ _⟩
  clear hw3 hE
  have HNF : Hid (∀ wx, Ch (fun _ => False) w3 wx → ∃ W3, NoF w wx W3 T E) := Lib.hid fun wx k => noF ((HG.out.ch.trans HT.out.ch).trans HE3.out.2.2) ((HE3.out.2.2.block T (blk_lt HT.out.cx) (fun f => f)).trans HT.out.cx) HE3.out.1 (by have h1 := blk_lt HT.out.cx; have h2 := HE3.out.2.1; omega) (by have h1 := HT.out.sz; have h2 := HE3.out.2.1; have h3 := HG.out.ch.size; have h4 := HT.out.ch.size; exact ⟨by omega, by omega⟩) k
  obtain ⟨x0, x1, x2, x3⟩ := (HG.out.x.gr HT.out.ch).gr HE3.out.2.2
  gi_upto_region 1 with fail
  refine wpIn_wide.2 ?_
  go_wp2_with fail
  refine (gmay_any g _).mono ?_
  rintro e w4 ⟨rfl, hc4⟩
  obtain ⟨y0, y1, y2, y3⟩ := ((HG.out.x.gr HT.out.ch).gr HE3.out.2.2).gr hc4
  have HC4 := Lib.hid hc4
  clear hc4 x0 x1 x2 x3
  cases hm : mayG g
  · clear hm y0 y1 y2 y3
    obtain ⟨W3, hW3⟩ := HNF.out w4 HC4.out
    have HN3 := Lib.hid hW3
    have c3 := hW3.c3
    have f3 := hW3.f3
    have HBT := Lib.hid (built_tl0 w4)
    clear hW3
    go_wp2_with fail
    gi_upto_region 2 with fail
    refine wpIn_wide.2 ?_
    go_wp2_with (first
      | ((with_reducible refine wpList_isOp (.build 40 #[]) rfl ?_); refine wpList_building _ rfl 40 #[] rfl _ (by exact HBT.out) ?_)
      | ((with_reducible refine wpList_isOp (.store 40 (.tmp 12) (.tmp 43)) rfl ?_); refine wpList_storing _ W3 rfl 40 (.tmp 12) (.tmp 43) rfl (.agg (tlC tl0 0 (.slice none 0 0))) ⟨T, 0, none⟩ rfl rfl (by exact HN3.out.st) ?_)
      | fail)
    gi_wp2
    exact ⟨_, results_fol Tryz.results21 _ _ T E tl0 0 (.slice none 0 0) 1 rfl rfl HN3.out.t HN3.out.e, rfl, HN3.out.ch⟩
  · obtain ⟨w5, hw5⟩ : ∃ w5, w5 = w4.alloc (.cells #[.int .i64 vol, .int .i64 start, .int .i64 chain] 3) := ⟨_, rfl⟩
    have HW5 := Lib.hid hw5
    have HAW := Lib.hid (rareWords_any w4.heap.size 3 (wordsF vol start chain) w5 (by omega) (fun i hi => by
      rw [hw5]
      match i, hi with
      | 0, _ => exact blk_cell (heap_alloc_new _ _)
      | 1, _ => exact blk_cell (heap_alloc_new _ _)
      | 2, _ => exact blk_cell (heap_alloc_new _ _)))
    have HC5 := Lib.hid (show Ch (fun _ => False) w3 w5 by rw [hw5]; exact HC4.out.alloc _ _)
    obtain ⟨x0, x1, x2, x3⟩ := ((HG.out.x.gr HT.out.ch).gr HE3.out.2.2).gr HC5.out
    clear hw5 y0 y1 y2 y3
    go_wp2_with fail
    rw [← HW5.out]
    refine HAW.out.mono ?_
    rintro e w6 ⟨rfl, rfl⟩
    have hno := HNO.out
    unfold okF at hno
    rw [hm, Bool.true_and] at hno
    clear hm
    cases hww : wordsTo (wordsF vol start chain) 3
    · clear hww hno x0 x1 x2 x3
      obtain ⟨W3, hW3⟩ := HNF.out w5 HC5.out
      have HN3 := Lib.hid hW3
      have c3 := hW3.c3
      have f3 := hW3.f3
      have HBT := Lib.hid (built_tl0 w5)
      clear hW3
      go_wp2_with fail
      gi_upto_region 2 with fail
      refine wpIn_wide.2 ?_
      go_wp2_with (first
        | ((with_reducible refine wpList_isOp (.build 40 #[]) rfl ?_); refine wpList_building _ rfl 40 #[] rfl _ (by exact HBT.out) ?_)
        | ((with_reducible refine wpList_isOp (.store 40 (.tmp 12) (.tmp 43)) rfl ?_); refine wpList_storing _ W3 rfl 40 (.tmp 12) (.tmp 43) rfl (.agg (tlC tl0 0 (.slice none 0 0))) ⟨T, 0, none⟩ rfl rfl (by exact HN3.out.st) ?_)
        | fail)
      gi_wp2
      exact ⟨_, results_fol Tryz.results21 _ _ T E tl0 0 (.slice none 0 0) 1 rfl rfl HN3.out.t HN3.out.e, rfl, HN3.out.ch⟩
    · rw [hww, Bool.true_and] at hno
      clear hww
      by_cases q0 : (n0 : Int) = g.wal
      · have q1 : ¬ (n1 : Int) = g.wal := fun e => by rw [decide_eq_true q0, decide_eq_true e] at hno; cases hno
        clear hno
        obtain ⟨W3, hW3⟩ := HNF.out w5 HC5.out
        have HN3 := Lib.hid hW3
        have c3 := hW3.c3
        have f3 := hW3.f3
        have HBT := Lib.hid (built_tl0 w5)
        clear hW3
        go_wp2_with fail
        gi_upto_region 2 with fail
        refine wpIn_wide.2 ?_
        go_wp2_with (first
          | ((with_reducible refine wpList_isOp (.build 40 #[]) rfl ?_); refine wpList_building _ rfl 40 #[] rfl _ (by exact HBT.out) ?_)
          | ((with_reducible refine wpList_isOp (.store 40 (.tmp 12) (.tmp 43)) rfl ?_); refine wpList_storing _ W3 rfl 40 (.tmp 12) (.tmp 43) rfl (.agg (tlC tl0 0 (.slice none 0 0))) ⟨T, 0, none⟩ rfl rfl (by exact HN3.out.st) ?_)
          | fail)
        gi_wp2
        exact ⟨_, results_fol Tryz.results21 _ _ T E tl0 0 (.slice none 0 0) 1 rfl rfl HN3.out.t HN3.out.e, rfl, HN3.out.ch⟩
      · clear hno
        obtain ⟨W3, hW3⟩ := HNF.out w5 HC5.out
        have HN3 := Lib.hid hW3
        have c3 := hW3.c3
        have f3 := hW3.f3
        have HBT := Lib.hid (built_tl0 w5)
        clear hW3
        go_wp2_with fail
        gi_upto_region 2 with fail
        refine wpIn_wide.2 ?_
        go_wp2_with (first
          | ((with_reducible refine wpList_isOp (.build 40 #[]) rfl ?_); refine wpList_building _ rfl 40 #[] rfl _ (by exact HBT.out) ?_)
          | ((with_reducible refine wpList_isOp (.store 40 (.tmp 12) (.tmp 43)) rfl ?_); refine wpList_storing _ W3 rfl 40 (.tmp 12) (.tmp 43) rfl (.agg (tlC tl0 0 (.slice none 0 0))) ⟨T, 0, none⟩ rfl rfl (by exact HN3.out.st) ?_)
          | fail)
        gi_wp2
        exact ⟨_, results_fol Tryz.results21 _ _ T E tl0 0 (.slice none 0 0) 1 rfl rfl HN3.out.t HN3.out.e, rfl, HN3.out.ch⟩
#print axioms rfollow_no
end Go.Proofs.YteleknojohnlbaaGreat
namespace Go.Proofs.YteleknojohnlbaaGreat
open Go.RowKit
set_option linter.unusedVariables false
set_option maxRecDepth 100000
set_option linter.unusedSimpArgs false
/-- A ring, as it lies: its device's block, and its numbers. -/
structure Rg where
  d : Nat
  vol : Int
  g : Ge
  ep : Int
  fr : Int
  start : Int
  next : Int
  chain : Int
def rgC (x : Rg) : Array Value := #[.pointer (some ⟨x.d, 0, none⟩), .int .i64 x.vol, .int .i64 x.g.wal, .int .i64 x.g.st, .int .i64 x.g.k, .int .i64 x.g.m, .int .i64 x.ep, .int .i64 x.fr, .int .i64 x.start, .int .i64 x.next, .int .i64 x.chain]
def RgIs (w : World) (R : Nat) (x : Rg) : Prop := w.heap[R]? = some (.cells (rgC x) 109 (0, 0))
theorem rnext_any (R : Nat) (x : Rg) (w : World) (h : RgIs w R x) : Calls Tryz.prog 30 #[.pointer (some ⟨R, 0, none⟩)] w (Ans (.int .i64 x.next) w) := by
  have x9 : w.cell? ⟨R, 9, none⟩ = some (.int .i64 x.next) := blk_cell h
  clear h
  go_enter Tryz.func30, Tryz.ntmps30
  go_wp2
  go_ret
  exact ⟨ret_int rfl, Ch.refl _ _⟩
theorem rnext_nil (w : World) : Calls Tryz.prog 30 #[.pointer none] w (Ans (.int .i64 0) w) := by
  go_enter Tryz.func30, Tryz.ntmps30
  go_wp2
  go_ret
  exact ⟨rfl, Ch.refl _ _⟩
theorem rchain_any (R : Nat) (x : Rg) (w : World) (h : RgIs w R x) : Calls Tryz.prog 31 #[.pointer (some ⟨R, 0, none⟩)] w (Ans (.int .i64 x.chain) w) := by
  have x10 : w.cell? ⟨R, 10, none⟩ = some (.int .i64 x.chain) := blk_cell h
  clear h
  go_enter Tryz.func31, Tryz.ntmps31
  go_wp2
  go_ret
  exact ⟨ret_int rfl, Ch.refl _ _⟩
theorem rchain_nil (w : World) : Calls Tryz.prog 31 #[.pointer none] w (Ans (.int .i64 0) w) := by
  go_enter Tryz.func31, Tryz.ntmps31
  go_wp2
  go_ret
  exact ⟨rfl, Ch.refl _ _⟩
def cutR (x : Rg) : Rg := { x with start := x.next }
theorem rcut_any (R : Nat) (x : Rg) (w : World) (h : RgIs w R x) : Calls Tryz.prog 36 #[.pointer (some ⟨R, 0, none⟩)] w fun e w' => e = .returned (.tuple #[]) ∧ RgIs w' R (cutR x) ∧ Ch (fun i => i = R) w w' := by
  have x9 : w.cell? ⟨R, 9, none⟩ = some (.int .i64 x.next) := blk_cell h
  have x8 : w.cell? ⟨R, 8, none⟩ = some (.int .i64 x.start) := blk_cell h
  have f8 : w.frozen? ⟨R, 8, none⟩ = false := blk_frozen h
  have HS : Hid (RgIs (w.setCell ⟨R, 8, none⟩ (.int .i64 x.next)) R (cutR x)) := Lib.hid (blk_set (i := 8) h _)
  have HC : Hid (Ch (fun i => i = R) w (w.setCell ⟨R, 8, none⟩ (.int .i64 x.next))) := Lib.hid ((Ch.refl (fun i => i = R) w).setCell (p := ⟨R, 8, none⟩) (Or.inl rfl) _)
  clear h
  go_enter Tryz.func36, Tryz.ntmps36
  go_wp2
  go_end0
  exact ⟨rfl, HS.out, HC.out⟩
/-- How many pieces so many bytes have. -/
def cntR (n : Nat) : Int := if ((n : Int) + 199) / 200 ≤ 1 then 1 else ((n : Int) + 199) / 200
theorem rcount_any (A : Option Addr) (n C : Nat) (w : World) (hn : n ≤ 140737488351232) : Calls Tryz.prog 66 #[.slice A n C] w (Ans (.int .i64 (cntR n)) w) := by
  have e1 : wrap64 ((n : Int) + 200) = (n : Int) + 200 := IntWalk.wrap64_in _ ⟨by omega, by omega⟩
  have e2 : wrap64 ((n : Int) + 200 - 1) = (n : Int) + 199 := by rw [IntWalk.wrap64_in _ ⟨by omega, by omega⟩]; omega
  have e3 : wrap64 (((n : Int) + 199).tdiv 200) = ((n : Int) + 199) / 200 := by
    rw [Int.tdiv_eq_ediv_of_nonneg (by omega)]
    exact IntWalk.wrap64_in _ ⟨by omega, by omega⟩
  have HE := Lib.hid e3
  clear hn e3
  go_enter Tryz.func66, Tryz.ntmps66
  go_wp2
  · rw [HE.out] at h ⊢
    go_ret
    exact ⟨ret_int (by unfold cntR; rw [if_neg (by omega)]), Ch.refl _ _⟩
  · rw [HE.out] at h
    go_ret
    exact ⟨ret_int (by unfold cntR; rw [if_pos h]), Ch.refl _ _⟩
#print axioms rnext_any
#print axioms rcut_any
end Go.Proofs.YteleknojohnlbaaGreat
