/-
  What stands in a log's slots, and what is told of it: in plain words. ring.Follow, where something may not be: no tail, and ErrArg. ring's Ring: its cells (Rg, rgC), Next, Chain, Cut, count. ring.New.
-/
import Derived.Test.YteleknojohnlbaaGreatMc31
namespace Go.Proofs.YteleknojohnlbaaGreat
open Go.RowKit
set_option linter.unusedVariables false
set_option maxRecDepth 100000
theorem tells_one {n : Nat} {z : Nat → Nat} {vol vol' : Int} {g g' : Ge} {mir mir' slot slot' : Int} {p q : Pn} (h1 : TellsR n z vol g mir slot p) (h2 : TellsR n z vol' g' mir' slot' q) : p = q := by
  obtain ⟨Y, hYe⟩ : ∃ Y : Pn → Prop, Y = fun y => ∃ vol g mir slot, TellsR n z vol g mir slot y := ⟨_, rfl⟩
  have hY : ∀ y, Y y → ∃ vol g mir slot, TellsR n z vol g mir slot y := fun y hy => by rw [hYe] at hy; exact hy
  have hM : ∀ y, Y y → mayP y = true := fun y hy => by obtain ⟨_, _, _, _, h⟩ := hY y hy; exact h.may
  have yp : Y p := by rw [hYe]; exact ⟨_, _, _, _, h1⟩
  have yq : Y q := by rw [hYe]; exact ⟨_, _, _, _, h2⟩
  have b0 := BackR.first hY undef
  obtain ⟨k0, e0, r0⟩ := Cod.rd_some (openB n z undef).len (openB n z undef).z
  obtain ⟨b1, f0⟩ := b0.next (by omega) hM r0
  obtain ⟨k1, e1, r1⟩ := Cod.rd_some _ _
  obtain ⟨b2, f1⟩ := b1.next (by omega) hM r1
  obtain ⟨k2, e2, r2⟩ := Cod.rd_some _ _
  obtain ⟨b3, f2⟩ := b2.next (by omega) hM r2
  obtain ⟨k3, e3, r3⟩ := Cod.rd_some _ _
  obtain ⟨b4, f3⟩ := b3.next (by omega) hM r3
  obtain ⟨k4, e4, r4⟩ := Cod.rd_some _ _
  have f4 := b4.last hM r4
  have s1 := h1.back undef
  have s2 := h2.back undef
  obtain ⟨ps, pe, pf, pcn, pi, po, pB⟩ := p
  obtain ⟨qs, qe, qf, qcn, qi, qo, qB⟩ := q
  have a1 : ps = qs := s1.seq.symm.trans s2.seq
  have a2 : pe = qe := s1.epoch.symm.trans s2.epoch
  have a3 : pf = qf := (f0 _ yp).2.symm.trans (f0 _ yq).2
  have a4 : pcn = qcn := (f1 _ yp).2.symm.trans (f1 _ yq).2
  have a5 : pi = qi := (f2 _ yp).2.symm.trans (f2 _ yq).2
  have a6 : po = qo := (f3 _ yp).2.symm.trans (f3 _ yq).2
  have a7 : pB = qB := (f4 _ yp).2.symm.trans (f4 _ yq).2
  rw [a1, a2, a3, a4, a5, a6, a7]
inductive Ct where
  | free
  | pc (q : Pn)
  | bad
def fbk (vol a : Int) : Bk := ⟨1, vol, a, 0, 0, undef, 0, fun _ => 0⟩
theorem fbk_may {vol a : Int} (hv : 0 ≤ vol ∧ vol ≤ 4294967295) (ha : 0 ≤ a ∧ a ≤ 4294967295) : mayB (fbk vol a) = true := by
  refine mayB_iff.2 ⟨⟨by show 1 ≤ (1 : Int) ∧ (1 : Int) ≤ 4; omega, hv, ha, by show 0 ≤ (0 : Int) ∧ (0 : Int) ≤ _; omega, by show 0 ≤ (0 : Int) ∧ (0 : Int) ≤ _; omega⟩, ?_⟩
  exact Nat.zero_le _
def ShowsC (vol : Int) (g : Ge) (mir slot : Int) (n : Nat) (z : Nat → Nat) : Ct → Prop
  | .free => n = 256 ∧ ∀ c, c < 256 → z c = sectZ (fbk vol (addrR g mir slot)) c
  | .pc q => TellsR n z vol g mir slot q
  | .bad => opensB n z = false
def tel : Ct → Option Pn
  | .pc q => some q
  | _ => none
def clC : Ct → Bool
  | .bad => false
  | _ => true
theorem shows_tell {vol : Int} {g : Ge} {mir slot : Int} {n : Nat} {z : Nat → Nat} {ct : Ct} (hv : 0 ≤ vol ∧ vol ≤ 4294967295) (ha : 0 ≤ addrR g mir slot ∧ addrR g mir slot ≤ 4294967295) (h : ShowsC vol g mir slot n z ct) : TellR n z vol g mir slot (tel ct) := by
  intro y
  cases ct with
  | free =>
    refine ⟨fun e => (by cases e), fun hy => ?_⟩
    obtain ⟨rfl, hz⟩ := h
    have h1 := (hy.back undef).kind
    have h2 := ((readB_at hz undef undef).trans (Go.Proofs.YteleknojohnlbaaGreat.back (fbk_may hv ha) undef)).kind
    rw [h2] at h1
    exact absurd h1 (by show ¬ (1 : Int) = 3; decide)
  | pc q =>
    refine ⟨fun e => by cases e; exact h, fun hy => ?_⟩
    have h' : TellsR n z vol g mir slot q := h
    have s1 := h'.back undef
    have s2 := hy.back undef
    -- the same sector tells the same piece
    exact congrArg some (tells_one h' hy)
  | bad =>
    refine ⟨fun e => (by cases e), fun hy => ?_⟩
    have h' : opensB n z = false := h
    rw [hy.opens] at h'
    cases h'
theorem shows_clean {vol : Int} {g : Ge} {mir slot : Int} {n : Nat} {z : Nat → Nat} {ct : Ct} (hv : 0 ≤ vol ∧ vol ≤ 4294967295) (ha : 0 ≤ addrR g mir slot ∧ addrR g mir slot ≤ 4294967295) (h : ShowsC vol g mir slot n z ct) : cleanB n z vol (addrR g mir slot) = clC ct := by
  cases ct with
  | free =>
    obtain ⟨rfl, hz⟩ := h
    have s := (readB_at hz undef undef).trans (Go.Proofs.YteleknojohnlbaaGreat.back (fbk_may hv ha) undef)
    refine clean_yes ?_ s.vol s.addr
    rw [opensB_eq hz]
    exact opensB_own (fbk_may hv ha)
  | pc q => exact clean_tells h
  | bad => exact clean_no h
structure LogM (m : Mi) (C : Nat → Nat → Ct) : Prop where
  ok : m.g.Ok
  vol : 0 ≤ m.vol ∧ m.vol ≤ 4294967295
  shows : ∀ c s : Nat, c < 2 → s < m.g.W → ShowsC m.vol m.g.ge (c : Int) (s : Int) (m.N c s) (m.Z c s) (C c s)
theorem adr_ok {g : Gn} (h : g.Ok) {c s : Nat} (hc : c < 2) (hs : s < g.W) : 0 ≤ addrR g.ge (c : Int) (s : Int) ∧ addrR g.ge (c : Int) (s : Int) ≤ 4294967295 := by
  have h1 := addr_in (ok_may h) (mir := (c : Int)) (s := (s : Int)) ⟨by omega, by omega⟩ ⟨by omega, by show (s : Int) < (g.W : Int); omega⟩
  omega
section
variable {m : Mi} {C : Nat → Nat → Ct}
theorem LogM.slot (h : LogM m C) (s : Nat) : s % m.g.W < m.g.W := Nat.mod_lt _ (by have := h.ok.w1; omega)
theorem LogM.oF (h : LogM m C) (s : Nat) {c : Nat} (hc : c < 2) : Go.Proofs.YteleknojohnlbaaGreat.oF m s c = tel (C c (s % m.g.W)) :=
  (oF_eq (shows_tell h.vol (adr_ok h.ok hc (h.slot s)) (h.shows c _ hc (h.slot s)))).symm
def cdC (W : Nat) (C : Nat → Nat → Ct) (s : Nat) : List Pn := candR (atS (tel (C 0 (s % W))) (s : Int)) (atS (tel (C 1 (s % W))) (s : Int))
def clS (C : Nat → Nat → Ct) (q : Nat) : Bool := clC (C 0 q) || clC (C 1 q)
theorem LogM.cd (h : LogM m C) (s : Nat) : cdM m s = cdC m.g.W C s := by
  unfold cdM cdC
  rw [h.oF s (by omega), h.oF s (by omega)]
theorem LogM.cl (h : LogM m C) {q : Nat} (hq : q < m.g.W) : clM m q = clS C q := by
  have e0 := shows_clean h.vol (adr_ok h.ok (c := 0) (by omega) hq) (h.shows 0 q (by omega) hq)
  have e1 := shows_clean h.vol (adr_ok h.ok (c := 1) (by omega) hq) (h.shows 1 q (by omega) hq)
  unfold clM clS cleanM
  rw [e0, e1]
-- h.vol (adr_ok h.ok (c := 0) (by omega) hq) (h.shows 0 q (by omega) hq), shows_clean h.vol (adr_ok h.ok (c := 1) (by omega) hq) (h.shows 1 q (by omega) hq)]
end
def endA : Pn → List Pn → Pn
  | a, [] => a
  | _, p :: P => endA p P
def endS (sm : Pn → Int) : Int → List Pn → Int
  | s, [] => s
  | _, p :: P => endS sm (sm p) P
theorem endA_app (a : Pn) : ∀ (P Q : List Pn), endA a (P ++ Q) = endA (endA a P) Q
  | [], Q => rfl
  | p :: P, Q => by show endA p (P ++ Q) = endA (endA p P) Q; exact endA_app p P Q
theorem endS_app (sm : Pn → Int) (s : Int) : ∀ (P Q : List Pn), endS sm s (P ++ Q) = endS sm (endS sm s P) Q
  | [], Q => rfl
  | p :: P, Q => by show endS sm (sm p) (P ++ Q) = endS sm (endS sm (sm p) P) Q; exact endS_app sm (sm p) P Q
def Takes (W : Nat) (C : Nat → Nat → Ct) (sm : Pn → Int) : Pn → Int → Nat → List Pn → Prop
  | _, _, _, [] => True
  | a, s, k, p :: P => (cdC W C k).find? (fitsP a s) = some p ∧ Takes W C sm p (sm p) (k + 1) P
theorem takes_app {W : Nat} {C : Nat → Nat → Ct} {sm : Pn → Int} : ∀ {P Q : List Pn} {a : Pn} {s : Int} {k : Nat}, Takes W C sm a s k P → Takes W C sm (endA a P) (endS sm s P) (k + P.length) Q → Takes W C sm a s k (P ++ Q)
  | [], Q, a, s, k, _, h => h
  | p :: P, Q, a, s, k, h, h2 => ⟨h.1, takes_app h.2 (by rw [List.length_cons] at h2; rw [show k + 1 + P.length = k + (P.length + 1) by omega]; exact h2)⟩
def StopsC (W : Nat) (C : Nat → Nat → Ct) (a : Pn) (s : Int) (k : Nat) : Prop := (cdC W C k).find? (fitsP a s) = none ∧ clS C (k % W) = true
theorem run_takes {m : Mi} {C : Nat → Nat → Ct} (h : LogM m C) : ∀ {P : List Pn} {f : Nat} {a : Pn} {s : Int} {k : Nat}, Takes m.g.W C (sumM m) a s k P → P.length ≤ f →
    runR m f a s k = (P ++ (runR m (f - P.length) (endA a P) (endS (sumM m) s P) (k + P.length)).1, (runR m (f - P.length) (endA a P) (endS (sumM m) s P) (k + P.length)).2)
  | [], f, a, s, k, _, _ => rfl
  | p :: P, f + 1, a, s, k, ht, hf => by
    rw [run_some (by rw [h.cd]; exact ht.1), run_takes h ht.2 (by rw [List.length_cons] at hf; omega), List.length_cons, show f + 1 - (P.length + 1) = f - P.length by omega, show k + 1 + P.length = k + (P.length + 1) by omega]
    rfl
theorem run_ends {m : Mi} {C : Nat → Nat → Ct} (h : LogM m C) {P : List Pn} {f : Nat} {a : Pn} {s : Int} {k : Nat} (ht : Takes m.g.W C (sumM m) a s k P) (hf : P.length ≤ f) (he : P.length = f ∨ StopsC m.g.W C (endA a P) (endS (sumM m) s P) (k + P.length)) : runR m f a s k = (P, false) := by
  rw [run_takes h ht hf]
  by_cases q : P.length = f
  · rw [q, Nat.sub_self, run_zero, List.append_nil]
  · obtain ⟨e1, e2⟩ := he.resolve_left q
    obtain ⟨f', hf'⟩ : ∃ f', f - P.length = f' + 1 := ⟨f - P.length - 1, by omega⟩
    rw [hf', run_none (by rw [h.cd]; exact e1), h.cl (h.slot _), e2, List.append_nil]
    rfl
def GoodTx (t : List Pn) : Prop := 0 < t.length ∧ ∀ (i : Nat) (q : Pn), t[i]? = some q → q.ix = (i : Int) ∧ q.ofn = (t.length : Int)
theorem good_whole {t L : List Pn} (h : GoodTx t) : wholeR (t ++ L) = t.length := by
  obtain ⟨h0, h1⟩ := h
  obtain ⟨p, hp⟩ : ∃ p, t[0]? = some p := ⟨t[0], List.getElem?_eq_getElem h0⟩
  have hp' : (t ++ L)[0]? = some p := by rw [List.getElem?_append_left h0]; exact hp
  obtain ⟨_, ho⟩ := h1 0 p hp
  have e : p.ofn.toNat = t.length := by rw [ho]; exact Int.toNat_natCast _
  rw [whole_some hp', e, if_pos]
  refine ⟨by rw [List.length_append]; omega, fun i hi => ?_⟩
  have hq : (t ++ L)[i]? = some t[i] := by rw [List.getElem?_append_left hi]; exact List.getElem?_eq_getElem hi
  obtain ⟨q1, q2⟩ := h1 i t[i] (List.getElem?_eq_getElem hi)
  rw [okAt_some hq, decide_eq_true q1, decide_eq_true (q2.trans ho.symm)]
  rfl
theorem lastS_end {sm : Pn → Int} : ∀ {t L : List Pn} {c : Int}, 0 < t.length → lastS sm (t ++ L) t.length c = endS sm c t
  | [p], L, c, _ => rfl
  | p :: q :: t, L, c, _ => by
    have ih := lastS_end (sm := sm) (t := q :: t) (L := L) (c := c) (by simp)
    show lastS sm (p :: (q :: t ++ L)) (t.length + 2) c = endS sm (sm q) t
    have e : lastS sm (p :: (q :: t ++ L)) (t.length + 2) c = lastS sm (q :: t ++ L) (t.length + 1) c := by
      unfold lastS
      show (match (p :: (q :: t ++ L))[t.length + 1]? with | some p => sm p | none => c) = (match (q :: t ++ L)[t.length]? with | some p => sm p | none => c)
      rw [List.getElem?_cons_succ]
    rw [e]
    exact ih
theorem end_txs {sm : Pn → Int} : ∀ (T : List (List Pn)) (L : List Pn) (acc : Tl), (∀ t ∈ T, GoodTx t) → wholeR L = 0 → endR sm (T.flatten ++ L).length (T.flatten ++ L) acc = ⟨acc.txs ++ T.map joinP, acc.next + (T.flatten.length : Int), endS sm acc.chain T.flatten⟩
  | [], L, acc, _, hL => by
    rw [List.flatten_nil, List.nil_append, endR_at, if_pos hL]
    simp [endS]
  | t :: T, L, acc, hT, hL => by
    have ht := hT t List.mem_cons_self
    have hw : wholeR ((t :: T).flatten ++ L) = t.length := by rw [List.flatten_cons, List.append_assoc]; exact good_whole ht
    rw [endR_at, hw, if_neg (by have := ht.1; omega)]
    have e1 : ((t :: T).flatten ++ L).drop t.length = T.flatten ++ L := by rw [List.flatten_cons, List.append_assoc, List.drop_left]
    have e2 : stepT sm ((t :: T).flatten ++ L) acc = ⟨acc.txs ++ [joinP t], acc.next + (t.length : Int), endS sm acc.chain t⟩ := by
      unfold stepT
      rw [hw]
      rw [List.flatten_cons, List.append_assoc, List.take_left, lastS_end ht.1]
    rw [e1, e2, end_txs T L _ (fun u hu => hT u (List.mem_cons_of_mem _ hu)) hL]
    rw [List.flatten_cons, List.length_append, endS_app]
    simp only [List.map_cons, List.append_assoc, List.singleton_append, Tl.mk.injEq, true_and, and_true]
    omega
theorem tail_txs {sm : Pn → Int} {T : List (List Pn)} {L : List Pn} {start chain : Int} (hT : ∀ t ∈ T, GoodTx t) (hL : wholeR L = 0) : tailR sm (T.flatten ++ L) start chain = ⟨T.map joinP, start + (T.flatten.length : Int), endS sm chain T.flatten⟩ := by
  unfold tailR
  rw [end_txs T L _ hT hL]
  rfl
end Go.Proofs.YteleknojohnlbaaGreat
namespace Go.Proofs.YteleknojohnlbaaGreat
open Go.RowKit
set_option linter.unusedVariables false
set_option maxRecDepth 100000
set_option linter.unusedSimpArgs false
attribute [local go_sem] Oper.semAt_some wide_fn wide_depth
end Go.Proofs.YteleknojohnlbaaGreat
namespace Go.Proofs.YteleknojohnlbaaGreat
open Go.RowKit
set_option linter.unusedVariables false
set_option maxRecDepth 100000
set_option linter.unusedSimpArgs false
structure Rg where
  d : Nat
  vol : Int
  g : Ge
  ep : Int
  fr : Int
  start : Int
  next : Int
  chain : Int
def rgC (x : Rg) : Array Value := #[.pointer (some ⟨x.d, 0, none⟩), .int .i64 x.vol, .int .i64 x.g.wal, .int .i64 x.g.st, .int .i64 x.g.k, .int .i64 x.g.m, .int .i64 x.ep, .int .i64 x.fr, .int .i64 x.start, .int .i64 x.next, .int .i64 x.chain]
def RgIs (w : World) (R : Nat) (x : Rg) : Prop := w.heap[R]? = some (.cells (rgC x) 109 (0, 0))
def cntR (n : Nat) : Int := if ((n : Int) + 199) / 200 ≤ 1 then 1 else ((n : Int) + 199) / 200
theorem rcount_any (A : Option Addr) (n C : Nat) (w : World) (hn : n ≤ 140737488351232) : Calls Tryz.prog 66 #[.slice A n C] w (Ans (.int .i64 (cntR n)) w) := by
  have e1 : wrap64 ((n : Int) + 200) = (n : Int) + 200 := IntWalk.wrap64_in _ ⟨by omega, by omega⟩
  have e2 : wrap64 ((n : Int) + 200 - 1) = (n : Int) + 199 := by rw [IntWalk.wrap64_in _ ⟨by omega, by omega⟩]; omega
  have e3 : wrap64 (((n : Int) + 199).tdiv 200) = ((n : Int) + 199) / 200 := by
    rw [Int.tdiv_eq_ediv_of_nonneg (by omega)]
    exact IntWalk.wrap64_in _ ⟨by omega, by omega⟩
  have HE := Lib.hid e3
  clear hn e3
  go_enter Tryz.func66, Tryz.ntmps66
  go_wp2
  · rw [HE.out] at h ⊢
    go_ret
    exact ⟨ret_int (by unfold cntR; rw [if_neg (by omega)]), Ch.refl _ _⟩
  · rw [HE.out] at h
    go_ret
    exact ⟨ret_int (by unfold cntR; rw [if_pos h]), Ch.refl _ _⟩
end Go.Proofs.YteleknojohnlbaaGreat
namespace Go.Proofs.YteleknojohnlbaaGreat
open Go.RowKit
set_option linter.unusedVariables false
set_option maxRecDepth 100000
set_option linter.unusedSimpArgs false
def wordsN (vol ep start next chain : Int) : Nat → Int := fun i => if i = 0 then vol else if i = 1 then ep else if i = 2 then start else if i = 3 then next else chain
def okN (vol : Int) (g : Ge) (ep start next chain : Int) : Bool := mayG g && (wordsTo (wordsN vol ep start next chain) 5 && inB (next - start) 0 g.wal)
def rgOf (d : Nat) (vol : Int) (g : Ge) (ep start next chain : Int) : Rg := ⟨d, vol, g, ep, next, start, next, chain⟩
theorem built_rg (d : Nat) (vol : Int) (g : Ge) (ep start next chain : Int) (w : World) : (Instr.build 109 #[(0, .pointer (some ⟨d, 0, none⟩)), (1, .int .i64 vol), (2, .agg (geC g)), (3, .int .i64 ep), (4, .int .i64 next), (5, .int .i64 start), (6, .int .i64 next), (7, .int .i64 chain)]).run Tryz.prog w = .ok (.agg (rgC (rgOf d vol g ep start next chain))) w := run_build w _ _ _ (by kernel_rfl)
def NewPost (d : Nat) (vol : Int) (g : Ge) (ep start next chain : Int) (w : World) (e : Ending) (w' : World) : Prop :=
  if okN vol g ep start next chain then ∃ R, e = .returned (.tuple #[.pointer (some ⟨R, 0, none⟩), .int .i64 0]) ∧ w.heap.size ≤ R ∧ RgIs w' R (rgOf d vol g ep start next chain) ∧ Ch (fun _ => False) w w'
  else e = .returned (.tuple #[.pointer none, .int .i64 1]) ∧ Ch (fun _ => False) w w'
theorem newPost_no {d : Nat} {vol : Int} {g : Ge} {ep start next chain : Int} {w w' : World} (h : okN vol g ep start next chain = false) (k : Ch (fun _ => False) w w') : NewPost d vol g ep start next chain w (.returned (.tuple #[.pointer none, .int .i64 1])) w' := by
  unfold NewPost; rw [h]; exact ⟨rfl, k⟩
theorem wordsTo_at {f : Nat → Int} : ∀ {n k : Nat}, wordsTo f n = true → k < n → wordB (f k) = true
  | n + 1, k, h, hk => by
    have h' : (wordsTo f n && wordB (f n)) = true := h
    obtain ⟨h1, h2⟩ := Bool.and_eq_true_iff.1 h'
    by_cases q : k = n
    · subst q; exact h2
    · exact wordsTo_at h1 (by omega)
set_option maxHeartbeats 12800000 in
theorem rgNew_any (d : Nat) (vol : Int) (g : Ge) (ep start next chain : Int) (w : World) : Calls Tryz.prog 26 #[.pointer (some ⟨d, 0, none⟩), .int .i64 vol, .agg (geC g), .int .i64 ep, .int .i64 start, .int .i64 next, .int .i64 chain] w (NewPost d vol g ep start next chain w) := by
  obtain ⟨w1, G, hG⟩ := geR w g
  obtain ⟨x0, x1, x2, x3⟩ := hG.x
  have HG := Lib.hid hG
  clear hG
  have HM := Lib.hid (gmay_any g w1)
  cases hm : mayG g
  · have HN := Lib.hid (show okN vol g ep start next chain = false by unfold okN; rw [hm]; rfl)
    rw [hm] at HM
    clear hm
    go_enter Tryz.func26, Tryz.ntmps26
    go_wp2_with (first
      | ((with_reducible refine wpList_isOp (.box 23 (.tmp 2)) rfl ?_); refine wpList_boxing _ w1 rfl 23 (.tmp 2) rfl (geC g) G rfl (by exact HG.out.sz) (by exact HG.out.al) ?_)
      | fail)
    refine HM.out.mono ?_
    rintro e w2 ⟨rfl, hc⟩
    have HC := Lib.hid hc
    clear hc
    go_wp2
    go_ret2
    exact newPost_no HN.out (HG.out.ch.trans HC.out)
  rw [hm] at HM
  cases hww : wordsTo (wordsN vol ep start next chain) 5
  · have HN := Lib.hid (show okN vol g ep start next chain = false by unfold okN; rw [hm, hww]; rfl)
    have HWW := Lib.hid hww
    clear hm hww
    go_enter Tryz.func26, Tryz.ntmps26
    go_wp2_with (first
      | ((with_reducible refine wpList_isOp (.box 23 (.tmp 2)) rfl ?_); refine wpList_boxing _ w1 rfl 23 (.tmp 2) rfl (geC g) G rfl (by exact HG.out.sz) (by exact HG.out.al) ?_)
      | fail)
    refine HM.out.mono ?_
    rintro e w2 ⟨rfl, hc⟩
    obtain ⟨w5, hw5⟩ : ∃ w5, w5 = w2.alloc (.cells #[.int .i64 vol, .int .i64 ep, .int .i64 start, .int .i64 next, .int .i64 chain] 3) := ⟨_, rfl⟩
    have HW5 := Lib.hid hw5
    have HAW := Lib.hid (rareWords_any w2.heap.size 5 (wordsN vol ep start next chain) w5 (by omega) (fun i hi => by
      rw [hw5]
      match i, hi with
      | 0, _ => exact blk_cell (heap_alloc_new _ _)
      | 1, _ => exact blk_cell (heap_alloc_new _ _)
      | 2, _ => exact blk_cell (heap_alloc_new _ _)
      | 3, _ => exact blk_cell (heap_alloc_new _ _)
      | 4, _ => exact blk_cell (heap_alloc_new _ _)))
    have HC5 := Lib.hid (show Ch (fun _ => False) w1 w5 by rw [hw5]; exact hc.alloc _ _)
    clear hw5 hc x0 x1 x2 x3
    go_wp2_with fail
    rw [← HW5.out]
    refine HAW.out.mono ?_
    rintro e w6 ⟨rfl, rfl⟩
    rw [HWW.out]
    clear HWW
    go_wp2
    go_ret2
    exact newPost_no HN.out (HG.out.ch.trans HC5.out)
  have e1 : wrap64 (next - start) = next - start := IntWalk.wrap64_in _ (by
    have k1 := wordB_iff.1 (wordsTo_at hww (k := 2) (by omega))
    have k2 := wordB_iff.1 (wordsTo_at hww (k := 3) (by omega))
    have k3 : 0 ≤ start ∧ start ≤ 4294967295 := k1
    have k4 : 0 ≤ next ∧ next ≤ 4294967295 := k2
    exact ⟨by omega, by omega⟩)
  cases hin : inB (next - start) 0 g.wal
  · have HN := Lib.hid (show okN vol g ep start next chain = false by unfold okN; rw [hm, hww, hin]; rfl)
    have HIN := Lib.hid hin
    clear hin
    have HWW := Lib.hid hww
    clear hm hww
    go_enter Tryz.func26, Tryz.ntmps26
    go_wp2_with (first
      | ((with_reducible refine wpList_isOp (.box 23 (.tmp 2)) rfl ?_); refine wpList_boxing _ w1 rfl 23 (.tmp 2) rfl (geC g) G rfl (by exact HG.out.sz) (by exact HG.out.al) ?_)
      | fail)
    refine HM.out.mono ?_
    rintro e w2 ⟨rfl, hc⟩
    obtain ⟨w5, hw5⟩ : ∃ w5, w5 = w2.alloc (.cells #[.int .i64 vol, .int .i64 ep, .int .i64 start, .int .i64 next, .int .i64 chain] 3) := ⟨_, rfl⟩
    have HW5 := Lib.hid hw5
    have HAW := Lib.hid (rareWords_any w2.heap.size 5 (wordsN vol ep start next chain) w5 (by omega) (fun i hi => by
      rw [hw5]
      match i, hi with
      | 0, _ => exact blk_cell (heap_alloc_new _ _)
      | 1, _ => exact blk_cell (heap_alloc_new _ _)
      | 2, _ => exact blk_cell (heap_alloc_new _ _)
      | 3, _ => exact blk_cell (heap_alloc_new _ _)
      | 4, _ => exact blk_cell (heap_alloc_new _ _)))
    have HC5 := Lib.hid (show Ch (fun _ => False) w1 w5 by rw [hw5]; exact hc.alloc _ _)
    clear hw5 hc x0 x1 x2 x3
    go_wp2_with fail
    rw [← HW5.out]
    refine HAW.out.mono ?_
    rintro e w6 ⟨rfl, rfl⟩
    rw [HWW.out]
    clear HWW
    obtain ⟨x0, x1, x2, x3⟩ := HG.out.x.gr HC5.out
    go_wp2_with (go_at_call 40; refine (rwithin_any _ _ _ _).mono ?_; rintro e w' ⟨rfl, rfl⟩; rw [HIN.out])
    go_ret2
    exact newPost_no HN.out (HG.out.ch.trans HC5.out)
  · have HN := Lib.hid (show okN vol g ep start next chain = true by unfold okN; rw [hm, hww, hin]; rfl)
    have HIN := Lib.hid hin
    clear hin
    have HWW := Lib.hid hww
    clear hm hww
    go_enter Tryz.func26, Tryz.ntmps26
    go_wp2_with (first
      | ((with_reducible refine wpList_isOp (.box 23 (.tmp 2)) rfl ?_); refine wpList_boxing _ w1 rfl 23 (.tmp 2) rfl (geC g) G rfl (by exact HG.out.sz) (by exact HG.out.al) ?_)
      | fail)
    refine HM.out.mono ?_
    rintro e w2 ⟨rfl, hc⟩
    obtain ⟨w5, hw5⟩ : ∃ w5, w5 = w2.alloc (.cells #[.int .i64 vol, .int .i64 ep, .int .i64 start, .int .i64 next, .int .i64 chain] 3) := ⟨_, rfl⟩
    have HW5 := Lib.hid hw5
    have HAW := Lib.hid (rareWords_any w2.heap.size 5 (wordsN vol ep start next chain) w5 (by omega) (fun i hi => by
      rw [hw5]
      match i, hi with
      | 0, _ => exact blk_cell (heap_alloc_new _ _)
      | 1, _ => exact blk_cell (heap_alloc_new _ _)
      | 2, _ => exact blk_cell (heap_alloc_new _ _)
      | 3, _ => exact blk_cell (heap_alloc_new _ _)
      | 4, _ => exact blk_cell (heap_alloc_new _ _)))
    have HC5 := Lib.hid (show Ch (fun _ => False) w1 w5 by rw [hw5]; exact hc.alloc _ _)
    clear hw5 hc x0 x1 x2 x3
    go_wp2_with fail
    rw [← HW5.out]
    refine HAW.out.mono ?_
    rintro e w6 ⟨rfl, rfl⟩
    rw [HWW.out]
    clear HWW
    obtain ⟨x0, x1, x2, x3⟩ := HG.out.x.gr HC5.out
    obtain ⟨w6, R, hR⟩ := boxR w5 (rgC (rgOf d vol g ep start next chain)) 109
    have HR := Lib.hid hR
    have HBT := Lib.hid (built_rg d vol g ep start next chain w5)
    have HFIN : Hid (NewPost d vol g ep start next chain w (.returned (.tuple #[.pointer (some ⟨R, 0, none⟩), .int .i64 0])) w6) := Lib.hid (by
      unfold NewPost
      rw [HN.out]
      exact ⟨R, rfl, by rw [← hR.sz]; exact (HG.out.ch.trans HC5.out).size, hR.cx, (HG.out.ch.trans HC5.out).trans hR.ch⟩)
    clear hR
    go_wp2_with (first
      | (go_at_call 40; refine (rwithin_any _ _ _ _).mono ?_; rintro e w' ⟨rfl, rfl⟩; rw [HIN.out])
      | ((with_reducible refine wpList_isOp (.build 109 #[(0, .tmp 42), (1, .tmp 43), (2, .tmp 44), (3, .tmp 45), (4, .tmp 46), (5, .tmp 47), (6, .tmp 48), (7, .tmp 49)]) rfl ?_); refine wpList_building _ rfl 109 #[(0, .tmp 42), (1, .tmp 43), (2, .tmp 44), (3, .tmp 45), (4, .tmp 46), (5, .tmp 47), (6, .tmp 48), (7, .tmp 49)] rfl _ (by exact HBT.out) ?_)
      | ((with_reducible refine wpList_isOp (.box 109 (.tmp 50)) rfl ?_); refine wpList_boxing _ w6 rfl 109 (.tmp 50) rfl (rgC (rgOf d vol g ep start next chain)) R rfl (by exact HR.out.sz) (by exact HR.out.al) ?_)
      | fail)
    go_ret2
    exact HFIN.out
end Go.Proofs.YteleknojohnlbaaGreat
