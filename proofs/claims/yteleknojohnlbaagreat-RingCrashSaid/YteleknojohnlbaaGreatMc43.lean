/-
  What is appended in a life, and what a crash leaves of it: the run that is taken then, in plain words. A life, from crash to crash, and what is told behind it, in plain words. How many transactions are told, at most. RingCrash: what lies in memory between two lives; all that was told, and what is appended to it.
-/
import Derived.Test.YteleknojohnlbaaGreatMc42
import Derived.Test.YteleknojohnlbaaGreatMc41
import Derived.Test.YteleknojohnlbaaGreatMc32
import Derived.Test.YteleknojohnlbaaGreatMc10
namespace Go.Proofs.YteleknojohnlbaaGreat
open Go.RowKit
set_option linter.unusedVariables false
set_option maxRecDepth 100000
set_option linter.unusedSimpArgs false
theorem part_whole {B : List Nat} {x : Rg} {o j : Nat} (hj : j < o) : wholeR (txP (o : Int) B x j) = 0 := by
  cases j with
  | zero => rfl
  | succ j =>
    have h0 : (txP (o : Int) B x (j + 1))[0]? = some (apQ (o : Int) B (ringTo (o : Int) B x 0) 0) := by
      unfold txP
      rw [List.getElem?_map, List.getElem?_range (by omega)]
      rfl
    rw [whole_some h0, if_neg]
    rintro ⟨q, _⟩
    have e : (apQ (o : Int) B (ringTo (o : Int) B x 0) 0).ofn.toNat = o := rfl
    rw [e, txP_len] at q
    omega
section
variable {vol : Int} {g : Gn} {N : Nat} {E : Int} {n0 : Nat} {a0 : Pn} {c0 : Int} {C0 : Nat → Nat → Ct} {d : Dev} {x : Rg} {C : Nat → Nat → Ct}
theorem life_rows (h : LifeS vol g N E n0 a0 c0 C0 d x C []) (hg : g.Ok) (hN : 4 + 2 * g.W ≤ N) : ∀ L : List (List Nat), (∀ B ∈ L, ∀ y ∈ B, y < 256) →
    ((adTo ⟨d, x, [], true⟩ L).ok = true ∧ ∃ C' T, LifeS vol g N E n0 a0 c0 C0 (adTo ⟨d, x, [], true⟩ L).d (adTo ⟨d, x, [], true⟩ L).x C' (List.flatten T) ∧ (∀ t ∈ T, GoodTx t) ∧ T.map joinP = (adTo ⟨d, x, [], true⟩ L).out) ∨
    ((adTo ⟨d, x, [], true⟩ L).ok = false ∧ ∃ T, (∀ t ∈ T, GoodTx t) ∧ T.map joinP = (adTo ⟨d, x, [], true⟩ L).out ∧ ∀ m qf, ∃ C2 T2 P, LandS vol g E n0 a0 c0 C0 C2 (List.flatten (T ++ T2) ++ P) ∧ wholeR P = 0 ∧ (T2 = [] ∨ ∃ t B, T2 = [t] ∧ GoodTx t ∧ B ∈ L ∧ joinP t = B) ∧ Fine N (crashD (adTo ⟨d, x, [], true⟩ L).d m qf) ∧ DevL vol g (crashD (adTo ⟨d, x, [], true⟩ L).d m qf) C2) := by
  refine snocI (fun _ => Or.inl ⟨rfl, C, [], h, fun t ht => by simp at ht, rfl⟩) fun L B ih hL => ?_
  rw [adTo_snoc]
  have hB : ∀ y ∈ B, y < 256 := hL B (List.mem_append_right _ (List.mem_singleton.2 rfl))
  rcases ih fun B hB => hL B (List.mem_append_left _ hB) with ⟨i1, C', T, i2, i3, i4⟩ | ⟨i1, T, i3, i4, i5⟩
  · have hc := cntN_pos B.length
    obtain ⟨s, hs⟩ : ∃ s, s = adTo ⟨d, x, [], true⟩ L := ⟨_, rfl⟩
    rw [← hs] at i1 i2 i4 ⊢
    rcases i2.app hg hN hB with ⟨e1, e2, e3⟩ | ⟨e1, C3, e2⟩ | ⟨e1, e2⟩
    · left
      have ea : adStep s B = ⟨(appS s.x B s.d).d, (appS s.x B s.d).x, s.out, true⟩ := by
        unfold adStep
        rw [if_pos i1, if_pos (e1.elim Or.inr Or.inl)]
      rw [ea, e2, e3]
      exact ⟨rfl, C', T, i2, i3, i4⟩
    · left
      have ea : adStep s B = ⟨(appS s.x B s.d).d, (appS s.x B s.d).x, s.out ++ [B], true⟩ := by
        unfold adStep
        rw [if_pos i1, if_neg (by rw [e1]; decide), if_pos e1]
      rw [ea]
      refine ⟨rfl, C3, T ++ [txP (cntN B.length : Int) B s.x (cntN B.length)], ?_, fun t ht => ?_, ?_⟩
      · rw [List.flatten_append, List.flatten_cons, List.flatten_nil, List.append_nil]
        exact e2
      · rcases List.mem_append.1 ht with q | q
        · exact i3 t q
        · rw [List.mem_singleton.1 q]; exact txP_good hc
      · rw [List.map_append, i4, List.map_cons, List.map_nil, txP_all]
    · right
      have ea : adStep s B = ⟨(appS s.x B s.d).d, (appS s.x B s.d).x, s.out, false⟩ := by
        unfold adStep
        rw [if_pos i1, if_neg (by rw [e1]; decide), if_neg (by rw [e1]; decide)]
      rw [ea]
      refine ⟨rfl, T, i3, i4, fun m qf => ?_⟩
      obtain ⟨C2, j, hj, hl, f1, f2⟩ := e2 m qf
      by_cases hjj : j = cntN B.length
      · subst hjj
        refine ⟨C2, [txP (cntN B.length : Int) B s.x (cntN B.length)], [], ?_, rfl, Or.inr ⟨_, B, rfl, txP_good hc, List.mem_append_right _ (List.mem_singleton.2 rfl), txP_all _ _ _⟩, f1, f2⟩
        rw [List.flatten_append, List.flatten_cons, List.flatten_nil, List.append_nil, List.append_nil]
        exact hl
      · refine ⟨C2, [], txP (cntN B.length : Int) B s.x j, ?_, part_whole (by omega), Or.inl rfl, f1, f2⟩
        rw [List.append_nil]
        exact hl
  · right
    have ea : adStep (adTo ⟨d, x, [], true⟩ L) B = adTo ⟨d, x, [], true⟩ L := by
      unfold adStep
      rw [if_neg (by rw [i1]; decide)]
    rw [ea]
    refine ⟨i1, T, i3, i4, fun m qf => ?_⟩
    obtain ⟨C2, T2, P, r1, r2, r3, r4⟩ := i5 m qf
    exact ⟨C2, T2, P, r1, r2, r3.imp id fun ⟨t, B', a, b, c, e⟩ => ⟨t, B', a, b, List.mem_append_left _ c, e⟩, r4⟩
end
structure Keeps (W : Nat) (sm : Pn → Int) (E : Int) (C : Nat → Nat → Ct) (T : List (List Pn)) : Prop where
  run : ∃ L, wholeR L = 0 ∧ Takes W C sm pn0 0 0 (T.flatten ++ L) ∧ (T.flatten ++ L).length ≤ W ∧ ((T.flatten ++ L).length = W ∨ StopsC W C (endA pn0 (T.flatten ++ L)) (endS sm 0 (T.flatten ++ L)) (0 + (T.flatten ++ L).length))
  good : ∀ t ∈ T, GoodTx t
  old : ∀ c s, c < 2 → s < W → C c s = .free ∨ ∃ q, C c s = .pc q ∧ q.ep ≤ E
  end' : (endA pn0 T.flatten).ofn = 0 ∨ (endA pn0 T.flatten).ep ≤ E
theorem takes_front {W : Nat} {C : Nat → Nat → Ct} {sm : Pn → Int} : ∀ {P Q : List Pn} {a : Pn} {s : Int} {k : Nat}, Takes W C sm a s k (P ++ Q) → Takes W C sm a s k P
  | [], _, _, _, _, _ => trivial
  | p :: P, Q, a, s, k, h => ⟨h.1, takes_front h.2⟩
theorem takes_same {W : Nat} {C D : Nat → Nat → Ct} {sm : Pn → Int} {n0 : Nat} (hn : n0 ≤ W) (e : ∀ c s, s < n0 → D c s = C c s) : ∀ {P : List Pn} {a : Pn} {s : Int} {k : Nat}, k + P.length ≤ n0 → Takes W C sm a s k P → Takes W D sm a s k P
  | [], _, _, _, _, _ => trivial
  | p :: P, a, s, k, hk, h => by
    rw [List.length_cons] at hk
    refine ⟨?_, takes_same hn e (by omega) h.2⟩
    have h1 := h.1
    unfold cdC at h1 ⊢
    rw [Nat.mod_eq_of_lt (show k < W by omega)] at h1 ⊢
    rw [e 0 k (by omega), e 1 k (by omega)]
    exact h1
theorem new_find {W : Nat} {C : Nat → Nat → Ct} {k : Nat} {q a : Pn} {s E : Int} (h0 : C 0 (k % W) = .pc q) (h1 : C 1 (k % W) = .pc q ∨ C 1 (k % W) = .free ∨ ∃ p, C 1 (k % W) = .pc p ∧ p.ep ≤ E) (he : E < q.ep) (hs : q.seq = (k : Int)) (hf : fitsP a s q = true) : (cdC W C k).find? (fitsP a s) = some q := by
  unfold cdC
  rw [h0]
  show (candR (atS (some q) (k : Int)) _).find? _ = _
  rw [atS_own hs]
  have hb : ∀ b, atS (tel (C 1 (k % W))) (k : Int) = some b → ¬ q.ep < b.ep := fun b hb => by
    have hbt := (atS_seq hb).1
    rcases h1 with e | e | ⟨p, e, hp⟩
    · rw [e] at hbt; injection hbt with hbt; rw [hbt]; omega
    · rw [e] at hbt; cases hbt
    · rw [e] at hbt; injection hbt with hbt; rw [← hbt]; omega
  cases ha : atS (tel (C 1 (k % W))) (k : Int) with
  | none => simp [candR, hf]
  | some b =>
    unfold candR
    simp only
    rw [if_neg (hb b ha)]
    simp [hf]
theorem old_stops {W : Nat} {C : Nat → Nat → Ct} {k : Nat} {a : Pn} {s E : Int} (h : ∀ c, c < 2 → C c (k % W) = .free ∨ ∃ q, C c (k % W) = .pc q ∧ q.ep ≤ E) (ha : E < a.ep) (ho : 1 ≤ a.ofn) : StopsC W C a s k := by
  refine ⟨List.find?_eq_none.2 fun p hp => ?_, ?_⟩
  · have hpe : p.ep ≤ E := by
      have get : ∀ c, c < 2 → atS (tel (C c (k % W))) (k : Int) = some p → p.ep ≤ E := fun c hc e => by
        have e1 := (atS_seq e).1
        rcases h c hc with f | ⟨q, f, hq⟩
        · rw [f] at e1; cases e1
        · rw [f] at e1; injection e1 with e1; rw [← e1]; exact hq
      rcases mem_cand hp with e | e
      · exact get 0 (by omega) e
      · exact get 1 (by omega) e
    have hfl := fits_last [] a s p ho
    rw [hfl]
    by_cases q1 : p.ch = s
    · rw [if_pos q1, if_neg (by omega), decide_eq_false (by omega)]; simp
    · rw [if_neg q1]; simp
  · unfold clS
    rcases h 0 (by omega) with f | ⟨q, f, _⟩ <;> rw [f] <;> rfl
theorem endA_mem : ∀ {Q : List Pn} {a : Pn}, Q ≠ [] → endA a Q ∈ Q
  | [], _, h => absurd rfl h
  | p :: Q, a, _ => by
    show endA p Q ∈ _
    cases Q with
    | nil => exact List.mem_cons_self
    | cons r Q => exact List.mem_cons_of_mem _ (endA_mem (by simp))
theorem flat_nil {T : List (List Pn)} (h : ∀ t ∈ T, GoodTx t) (e : T.flatten = []) : T = [] := by
  cases T with
  | nil => rfl
  | cons t T =>
    rw [List.flatten_cons] at e
    have := (h t List.mem_cons_self).1
    have e2 := (List.append_eq_nil_iff.1 e).1
    rw [e2] at this
    exact absurd this (Nat.lt_irrefl 0)
theorem takes_new {W : Nat} {C : Nat → Nat → Ct} {sm : Pn → Int} {E : Int} : ∀ {Q : List Pn} {a : Pn} {s : Int} {k : Nat}, FitsL sm a s Q → k + Q.length ≤ W → (∀ (i : Nat) (q : Pn), Q[i]? = some q → q.seq = ((k + i : Nat) : Int) ∧ E < q.ep ∧ C 0 (k + i) = .pc q ∧ (C 1 (k + i) = .pc q ∨ C 1 (k + i) = .free ∨ ∃ p, C 1 (k + i) = .pc p ∧ p.ep ≤ E)) → Takes W C sm a s k Q
  | [], _, _, _, _, _, _ => trivial
  | p :: Q, a, s, k, hf, hk, h => by
    rw [List.length_cons] at hk
    obtain ⟨h1, h2, h3, h4⟩ := h 0 p rfl
    rw [Nat.add_zero] at h1 h3 h4
    refine ⟨new_find (E := E) (by rw [Nat.mod_eq_of_lt (by omega)]; exact h3) (by rw [Nat.mod_eq_of_lt (by omega)]; exact h4) h2 h1 hf.1, takes_new (E := E) hf.2 (by omega) fun i q hq => ?_⟩
    have := h (i + 1) q (by rw [List.getElem?_cons_succ]; exact hq)
    rw [show k + 1 + i = k + (i + 1) by omega]
    exact this
theorem land_keeps {vol : Int} {g : Gn} {E : Int} {C0 C2 : Nat → Nat → Ct} {T T1 : List (List Pn)} {P : List Pn} (h : Keeps g.W (sumR vol g.ge) E C0 T) (hn : T.flatten.length ≤ g.W)
    (hl : LandS vol g (E + 1) T.flatten.length (endA pn0 T.flatten) (endS (sumR vol g.ge) 0 T.flatten) C0 C2 (T1.flatten ++ P)) (hg1 : ∀ t ∈ T1, GoodTx t) (hP : wholeR P = 0) : Keeps g.W (sumR vol g.ge) (E + 1) C2 (T ++ T1) := by
  have hgood : ∀ t ∈ T ++ T1, GoodTx t := fun t ht => (List.mem_append.1 ht).elim (h.good t) (hg1 t)
  obtain ⟨L, r1, r2, r3, r4⟩ := h.run
  by_cases hQ : T1.flatten ++ P = []
  · obtain ⟨q1, q2⟩ := List.append_eq_nil_iff.1 hQ
    obtain rfl := flat_nil hg1 q1
    have hC : C2 = C0 := by
      funext c s
      refine hl.rest c s ?_
      rw [hQ]
      show s < _ ∨ _ + 0 ≤ s
      omega
    rw [hC, List.append_nil]
    exact ⟨h.run, h.good, fun c s hc hs => (h.old c s hc hs).imp id fun ⟨q, a, b⟩ => ⟨q, a, by omega⟩, h.end'.imp id fun e => by omega⟩
  · obtain ⟨Q, hQe⟩ : ∃ Q, Q = T1.flatten ++ P := ⟨_, rfl⟩
    rw [← hQe] at hl hQ
    have hfl : (T ++ T1).flatten ++ P = T.flatten ++ Q := by rw [List.flatten_append, List.append_assoc, hQe]
    have old2 : ∀ c s, c < 2 → s < g.W → T.flatten.length + Q.length ≤ s → C2 c s = .free ∨ ∃ q, C2 c s = .pc q ∧ q.ep ≤ E := fun c s hc hs hh => by rw [hl.rest c s (Or.inr hh)]; exact h.old c s hc hs
    have hlast := endA_mem (a := endA pn0 T.flatten) hQ
    obtain ⟨i, hi, hie⟩ := List.getElem_of_mem hlast
    obtain ⟨⟨_, l1, l2⟩, _⟩ := hl.pcs i _ (by rw [List.getElem?_eq_getElem hi, hie])
    refine ⟨⟨P, hP, ?_, ?_, ?_⟩, hgood, fun c s hc hs => ?_, ?_⟩
    · rw [hfl]
      refine takes_app (takes_same (n0 := T.flatten.length) hn (fun c s hs => hl.rest c s (Or.inl hs)) (by omega) (takes_front r2)) ?_
      rw [Nat.zero_add]
      refine takes_new (E := E) hl.fits hl.le fun j q hj => ?_
      obtain ⟨⟨a1, a2, a3⟩, a4, a5⟩ := hl.pcs j q hj
      refine ⟨a1, by omega, a4, a5.imp id fun e => ?_⟩
      rw [e]
      exact h.old 1 _ (by omega) (by have := (List.getElem?_eq_some_iff.1 hj).1; have := hl.le; omega)
    · rw [hfl, List.length_append]; exact hl.le
    · rw [hfl]
      by_cases hW : (T.flatten ++ Q).length = g.W
      · exact Or.inl hW
      · right
        rw [List.length_append] at hW ⊢
        have := hl.le
        rw [endA_app]
        refine old_stops (E := E) (fun c hc => ?_) (by omega) l2
        rw [Nat.zero_add, Nat.mod_eq_of_lt (by omega)]
        exact old2 c _ hc (by omega) (Nat.le_refl _)
    · by_cases q1 : s < T.flatten.length ∨ T.flatten.length + Q.length ≤ s
      · rw [hl.rest c s q1]
        exact (h.old c s hc hs).imp id fun ⟨q, a, b⟩ => ⟨q, a, by omega⟩
      · obtain ⟨j, rfl⟩ : ∃ j, s = T.flatten.length + j := ⟨s - T.flatten.length, by omega⟩
        obtain ⟨⟨_, a2, _⟩, a4, a5⟩ := hl.pcs j (Q[j]'(by omega)) (List.getElem?_eq_getElem _)
        obtain rfl | rfl : c = 0 ∨ c = 1 := by omega
        · exact Or.inr ⟨_, a4, by omega⟩
        · rcases a5 with e | e
          · exact Or.inr ⟨_, e, by omega⟩
          · rw [e]
            exact (h.old 1 _ hc hs).imp id fun ⟨q, a, b⟩ => ⟨q, a, by omega⟩
    · by_cases q1 : T1.flatten = []
      · obtain rfl := flat_nil hg1 q1
        rw [List.append_nil]
        exact h.end'.imp id fun e => by omega
      · right
        rw [List.flatten_append, endA_app]
        have hm := endA_mem (a := endA pn0 T.flatten) q1
        have hm2 : endA (endA pn0 T.flatten) T1.flatten ∈ Q := by rw [hQe]; exact List.mem_append_left _ hm
        obtain ⟨i2, hi2, hie2⟩ := List.getElem_of_mem hm2
        obtain ⟨⟨_, m1, _⟩, _⟩ := hl.pcs i2 _ (by rw [List.getElem?_eq_getElem hi2, hie2])
        omega
end Go.Proofs.YteleknojohnlbaaGreat
namespace Go.Proofs.YteleknojohnlbaaGreat
open Go.RowKit
set_option linter.unusedVariables false
set_option maxRecDepth 100000
set_option linter.unusedSimpArgs false
theorem keeps_len {W : Nat} {sm : Pn → Int} {E : Int} {C : Nat → Nat → Ct} {T : List (List Pn)} (h : Keeps W sm E C T) : T.flatten.length ≤ W := by
  obtain ⟨L, _, _, h3, _⟩ := h.run
  rw [List.length_append] at h3
  omega
theorem keeps_blank {W : Nat} {sm : Pn → Int} (hW : 0 < W) : Keeps W sm 0 (fun _ _ => .free) [] :=
  ⟨⟨[], rfl, trivial, Nat.zero_le _, Or.inr (stops_of (fun _ _ => Or.inl rfl) (Or.inl rfl))⟩, fun t ht => by simp at ht, fun _ _ _ _ => Or.inl rfl, Or.inl rfl⟩
section
variable {vol : Int} {g : Gn} {N : Nat} {E : Int} {C : Nat → Nat → Ct} {T : List (List Pn)} {d : Dev}
theorem keeps_told {m : Mi} (h : Keeps g.W (sumR vol g.ge) E C T) (hm : LogM m C) (hmv : m.vol = vol) (hmg : m.g = g) : ∃ P, allI m 0 0 = (P, false) ∧ tailR (sumM m) P ((0 : Nat) : Int) 0 = ⟨T.map joinP, ((T.flatten.length : Nat) : Int), endS (sumR vol g.ge) 0 T.flatten⟩ := by
  have hs : sumM m = sumR vol g.ge := by unfold sumM; rw [hmv, hmg]
  obtain ⟨L, h1, h2, h3, h4⟩ := h.run
  rw [← hs] at h2 h4
  refine ⟨T.flatten ++ L, ?_, ?_⟩
  · unfold allI
    rw [hmg]
    exact run_ends hm (by rw [hmg]; exact h2) h3 (by rw [hmg]; exact h4)
  · rw [tail_txs h.good h1, hs]
    congr 1
    omega
structure BegX (vol : Int) (g : Gn) (E : Int) (T : List (List Pn)) (x : Rg) : Prop where
  ok : RgOk x
  vx : x.vol = vol
  gx : x.g = g.ge
  ep : x.ep = E + 1
  fr : x.fr = x.next
  start : x.start = 0
  next : x.next = ((T.flatten.length : Nat) : Int)
  chain : x.chain = endS (sumR vol g.ge) 0 T.flatten
theorem crash_life (h : Keeps g.W (sumR vol g.ge) E C T) (hg : g.Ok) (hN : 4 + 2 * g.W ≤ N) (hd : Fine N d) (hL : DevL vol g d C) {x : Rg} (hx : BegX vol g E T x) (n : Int) {R : List (List Nat)} (hR : ∀ B ∈ R, ∀ y ∈ B, y < 256) (m : Nat) (qf : Nat → Bool) :
    ∃ C2 T2, Keeps g.W (sumR vol g.ge) (E + 1) C2 T2 ∧ Fine N (crashD (adTo ⟨armD d n, x, [], true⟩ R).d m qf) ∧ DevL vol g (crashD (adTo ⟨armD d n, x, [], true⟩ R).d m qf) C2 ∧
      (T2.map joinP = T.map joinP ++ (adTo ⟨armD d n, x, [], true⟩ R).out ∨ ((adTo ⟨armD d n, x, [], true⟩ R).ok = false ∧ ∃ B ∈ R, T2.map joinP = T.map joinP ++ (adTo ⟨armD d n, x, [], true⟩ R).out ++ [B])) := by
  have hn := keeps_len h
  have hlf : LifeS vol g N (E + 1) T.flatten.length (endA pn0 T.flatten) (endS (sumR vol g.ge) 0 T.flatten) C (armD d n) x C [] :=
    ⟨arm_live hd n, dev_same hL (fun a => ⟨rfl, rfl⟩), fun i q hq => by simp at hq, fun c s _ => rfl, trivial, ⟨hx.chain, by
      rcases h.end' with e | e
      · exact Or.inl e
      · exact Or.inr (Or.inr ⟨by show (endA pn0 T.flatten).ep < x.ep; rw [hx.ep]; omega, hx.fr⟩)⟩, hx.ok, hx.vx, hx.gx, hx.ep, hx.start, hx.next, hn⟩
  obtain ⟨s, hs⟩ : ∃ s, s = adTo ⟨armD d n, x, [], true⟩ R := ⟨_, rfl⟩
  have hr := life_rows hlf hg hN R hR
  rw [← hs] at hr ⊢
  rcases hr with ⟨r1, C2, T1, r2, r3, r4⟩ | ⟨r1, T1, r3, r4, r5⟩
  · obtain ⟨f1, f2⟩ := live_crash r2.live m qf
    refine ⟨C2, T ++ T1, land_keeps (P := []) h hn (by rw [List.append_nil]; exact r2.land) r3 rfl, f1, dev_same r2.dev f2, Or.inl ?_⟩
    rw [List.map_append, r4]
  · obtain ⟨C2, T2, P, l1, l2, l3, f1, f2⟩ := r5 m qf
    have hg2 : ∀ t ∈ T1 ++ T2, GoodTx t := fun t ht => by
      rcases List.mem_append.1 ht with q | q
      · exact r3 t q
      · rcases l3 with rfl | ⟨t', B, rfl, b, _⟩
        · simp at q
        · rw [List.mem_singleton.1 q]; exact b
    refine ⟨C2, T ++ (T1 ++ T2), land_keeps h hn l1 hg2 l2, f1, f2, ?_⟩
    rcases l3 with rfl | ⟨t', B, rfl, _, b, c⟩
    · left
      rw [List.append_nil, List.map_append, r4]
    · right
      refine ⟨r1, B, b, ?_⟩
      rw [List.map_append, List.map_append, r4, List.append_assoc, List.map_cons, List.map_nil, c]
end
end Go.Proofs.YteleknojohnlbaaGreat
namespace Go.Proofs.YteleknojohnlbaaGreat
open Go.RowKit
set_option linter.unusedVariables false
set_option maxRecDepth 100000
set_option linter.unusedSimpArgs false
theorem end_count {sm : Pn → Int} : ∀ (f : Nat) (P : List Pn) (t : Tl), (endR sm f P t).txs.length ≤ t.txs.length + P.length
  | 0, P, t => Nat.le_add_right _ _
  | f + 1, P, t => by
    show (if wholeR P = 0 then t else endR sm f (P.drop (wholeR P)) (stepT sm P t)).txs.length ≤ _
    split
    · exact Nat.le_add_right _ _
    · rename_i h
      refine Nat.le_trans (end_count f _ _) ?_
      have := whole_le P
      rw [List.length_drop]
      show (t.txs ++ [_]).length + _ ≤ _
      rw [List.length_append]
      simp only [List.length_cons, List.length_nil]
      omega
theorem fol_count {m : Mi} (hm : m.g.Ok) (start : Nat) (chain : Int) : (if (allI m start chain).2 then tl0 else tailR (sumM m) (allI m start chain).1 start chain).txs.length ≤ 512 := by
  split
  · exact Nat.zero_le _
  · have h1 := run_len m m.g.W pn0 chain start
    have h2 := hm.w2
    unfold tailR
    refine Nat.le_trans (end_count _ _ _) ?_
    show 0 + (allI m start chain).1.length ≤ _
    unfold allI
    omega
end Go.Proofs.YteleknojohnlbaaGreat
namespace Go.Proofs.YteleknojohnlbaaGreat
open Go.RowKit
set_option linter.unusedVariables false
set_option maxRecDepth 100000
set_option linter.unusedSimpArgs false
section
variable {w0 w w1 : World} {X : Nat → Prop} {B R : Nat} {d : Dev} {x : Rg}
theorem RgW.startX (h : OneX w0 X B d w) (hc : Ch (fun _ => False) w w1) (hr : RgIs w1 R x) (hR : w.heap.size ≤ R) (hx : x.d = B) : RgW w0 X B R d x w1 := by
  obtain ⟨p, h2, h3, h4⟩ := h.dev
  refine ⟨h.ch.trans hc, ⟨p, h2, h3.gr hc, fun i hi hf => ?_⟩, hr, hx, Nat.le_trans h.ch.size hR, fun i hi => Nat.lt_of_lt_of_le (h.lt i hi) hc.size, fun i hi e => ?_⟩
  · rcases hi with hi | hi
    · exact h4 i hi hf
    · have := (h3.foot hf).2; omega
  · have := h.lt i hi; omega
theorem RgW.toX (h : RgW w0 X B R d x w) : OneX w0 X B d w := by
  obtain ⟨p, h2, h3, h4⟩ := h.dev
  exact ⟨h.ch, ⟨p, h2, h3, fun i hi => h4 i (Or.inl hi)⟩, h.lt⟩
end
theorem appM_none (w : World) (A : Option Addr) (n C c : Nat) (hA : A = none → n = 0 ∧ C = 0) (hn : n ≤ C) : (Builtin.append_ #[ /-t-/37, /-t-/37] /-t-/37 #[.slice A n C, .slice none 0 c]).run Tryz.prog w = .ok (.slice A n C) w := by
  obtain ⟨i0, hi, hz0, hz1, hz2⟩ := info_parts info_bs
  cases A with
  | none =>
    obtain ⟨rfl, rfl⟩ := hA rfl
    simp [Builtin.append_, run_underlying under_bs, sizeOf, typeInfo, hi, Builtin.lenOf, Builtin.firstCells]
  | some a =>
    simp [Builtin.append_, run_underlying under_bs, sizeOf, typeInfo, hi, Builtin.lenOf, Builtin.firstCells, storeCells, hn]
structure AllV (w2 : World) (X : Nat → Prop) (w : World) (A : Option Addr) (rows : List (List Nat)) : Prop where
  at' : ∀ (i : Nat) (bt : List Nat), rows[i]? = some bt → ∃ b o A' C', A = some ⟨b, o, none⟩ ∧ X b ∧ w.cell? ⟨b, o + i, none⟩ = some (.slice A' bt.length C') ∧ RowV w (.slice A' bt.length C') bt.length (Cod.litZ bt) ∧ ∀ sb so, A' = some ⟨sb, so, none⟩ → 0 < bt.length → X sb ∨ sb < w2.heap.size
theorem AllV.ch {w2 w w' : World} {X S : Nat → Prop} {A : Option Addr} {rows : List (List Nat)} (h : AllV w2 X w A rows) (k : Ch S w w') (hS : ∀ i, S i → ¬ X i ∧ w2.heap.size ≤ i) : AllV w2 X w' A rows :=
  ⟨fun i bt hb => by
    obtain ⟨b, o, A', C', h1, h2, h3, h4, h5⟩ := h.at' i bt hb
    refine ⟨b, o, A', C', h1, h2, k.cell h3 (fun q => (hS b q).1 h2), ?_, h5⟩
    by_cases h0 : 0 < bt.length
    · obtain ⟨sb, so, rfl, _⟩ := h4.at h0
      exact h4.ch' k (fun q => by
        rcases h5 sb so rfl h0 with x | x
        · exact (hS sb q).1 x
        · have := (hS sb q).2; omega)
    · obtain ⟨_, _, e, hl, _⟩ := h4
      injection e with e1 _ e2
      subst e1 e2
      exact ⟨A', C', rfl, hl, fun q => absurd q h0⟩⟩
theorem AllV.gr {w2 w w' : World} {X : Nat → Prop} {A : Option Addr} {rows : List (List Nat)} (h : AllV w2 X w A rows) (k : Ch (fun _ => False) w w') : AllV w2 X w' A rows := h.ch k fun _ f => f.elim
theorem cellsB (M : List Bv) : cellsO elB M = M.map Bv.V := by
  unfold cellsO
  induction M with
  | nil => rfl
  | cons x M ih => rw [List.flatMap_cons, ih]; rfl
theorem all_app {w0 wa w : World} {v u : Value} {M : List Bv} {out : List (List Nat)} (h : RwO kdB elB wa w v M) (hu : OutW w0 w u out) (h0 : Ch (fun _ => False) w0 w) (ha : w0.heap.size ≤ wa.heap.size) (hb : wa.heap.size ≤ w.heap.size) (hM : M.length ≤ 600) (ho : out.length ≤ 600) {X : Nat → Prop} (hX1 : ∀ i, v.ownBlock = some i → X i) (hX2 : ∀ i, w.heap.size ≤ i → X i) (hX3 : ∀ x ∈ M, ∀ sb so C, x.V = .slice (some ⟨sb, so, none⟩) x.B.length C → 0 < x.B.length → X sb) :
    ∃ A C w', (Builtin.append_ #[ /-t-/37, /-t-/37] /-t-/37 #[v, u]).run Tryz.prog w = .ok (.slice A (M.length + out.length) C) w' ∧ Ch (fun i => v.ownBlock = some i) w w' ∧ AllV w0 X w' A (M.map Bv.B ++ out) := by
  obtain ⟨vs, hu1, hu2, hu3⟩ := hu.own
  obtain ⟨Av, Cv, rfl⟩ := h.len
  have hCv : M.length ≤ Cv := (h.read (by omega)).cap
  have hrows : ∀ {w' : World}, Ch (fun i => (Value.slice Av M.length Cv).ownBlock = some i) w w' → ∀ x ∈ M, RowV w' x.V x.B.length (Cod.litZ x.B) := fun {w'} k x hx =>
    ((h.rows x hx).ch k fun i hi _ ⟨c, hc⟩ => by
      obtain ⟨_, c2, hc2⟩ := own_at h.own hi
      exact cells_ne hc2 hc (by decide) rfl).row.row
  have get : ∀ {w' : World} {xs : List Value} {A : Option Addr} {n C : Nat}, Ch (fun i => (Value.slice Av M.length Cv).ownBlock = some i) w w' → w'.ownsRow wa.heap.size /-t-/24 1 (.slice A n C) n xs → xs = M.map Bv.V ++ vs → n = M.length + out.length → (∀ b, (Value.slice A n C).ownBlock = some b → X b) → AllV w0 X w' A (M.map Bv.B ++ out) := fun {w' xs A n C} k hown hxs hn hXb => by
    refine ⟨fun i bt hbt => ?_⟩
    have hi : i < M.length + out.length := by
      have := (List.getElem?_eq_some_iff.1 hbt).1
      rw [List.length_append, List.length_map] at this
      exact this
    rcases hown.2 with ⟨_, q⟩ | ⟨g, cap, cur, e, _⟩
    · omega
    · injection e with e _ _
      subst e
      obtain ⟨V, hV, hr, hsb⟩ : ∃ V, xs[i]? = some V ∧ RowV w' V bt.length (Cod.litZ bt) ∧ ∀ sb so C, V = .slice (some ⟨sb, so, none⟩) bt.length C → 0 < bt.length → X sb ∨ sb < w0.heap.size := by
        rw [hxs]
        by_cases q : i < M.length
        · rw [List.getElem?_append_left (by rw [List.length_map]; exact q), List.getElem?_map] at hbt
          rw [List.getElem?_append_left (by rw [List.length_map]; exact q), List.getElem?_map]
          cases hx : M[i]? with
          | none => rw [hx] at hbt; cases hbt
          | some x =>
            rw [hx] at hbt
            injection hbt with hbt
            exact ⟨x.V, rfl, by rw [← hbt]; exact hrows k x (List.mem_of_getElem? hx), by rw [← hbt]; exact fun sb so C e h => Or.inl (hX3 x (List.mem_of_getElem? hx) sb so C e h)⟩
        · rw [List.getElem?_append_right (by rw [List.length_map]; omega), List.length_map] at hbt
          rw [List.getElem?_append_right (by rw [List.length_map]; omega), List.length_map]
          have hlt := (List.getElem?_eq_some_iff.1 hbt).1
          have hV : vs[i - M.length]? = some (vs[i - M.length]'(by omega)) := List.getElem?_eq_getElem _
          obtain ⟨bt2, a1, a2, a3, a4⟩ := hu3 _ _ hV
          rw [a1] at hbt
          injection hbt with hbt
          subst hbt
          refine ⟨_, hV, a3.gr (h0.new (k.mono fun j _ hj => Nat.le_trans ha (own_at h.own hj).1)), fun sb so C e hp => Or.inr ?_⟩
          rw [e] at a3
          obtain ⟨b', o', e2, hc⟩ := a3.at hp
          injection e2 with e2
          injection e2 with e2 _
          rw [e2]
          exact World.block_lt_of_cell? _ _ (hc 0 hp)
      have hc := World.ownsRow.cells hown (g := g) rfl i V hV
      rw [add_pl] at hc
      obtain ⟨A', C', rfl, _⟩ := id hr
      exact ⟨g, 0, A', C', rfl, hXb g rfl, hc, hr, fun sb so e h => hsb sb so C' (by rw [e]) h⟩
  rcases hu1.2 with ⟨rfl, h0'⟩ | ⟨g, cap, cur, rfl, hg⟩
  · have hvs : vs = [] := List.length_eq_zero_iff.1 (by omega)
    refine ⟨Av, Cv, w, ?_, Ch.refl _ w, get (Ch.refl _ w) h.own (by rw [hvs, cellsB, List.append_nil]) (by omega) hX1⟩
    rw [h0', Nat.add_zero]
    refine appM_none w Av M.length Cv 0 (fun e => ?_) hCv
    subst e
    rcases h.own.2 with ⟨e, q⟩ | ⟨g, cap, cur, e, _⟩
    · injection e with _ _ e; exact ⟨q, e⟩
    · injection e with e _ _; cases e
  · by_cases hz : out.length = 0
    · have hvs : vs = [] := List.length_eq_zero_iff.1 (by omega)
      obtain ⟨i0, hi, hz0, hz1, hz2⟩ := info_parts info_bs
      obtain ⟨v', w', a1, a2, a3, a4, a5⟩ := run_append_own_at (P := Tryz.prog) w wa.heap.size /-t-/37 /-t-/37 /-t-/24 i0 (.slice none 0 0) 1 24 under_bs hi hz0 hz1 hz2 rfl (by decide) (.slice Av M.length Cv) M.length (cellsO elB M) h.own ⟨g, 0, none⟩ out.length cap vs (by omega) (fun j V hj => by rw [hvs] at hj; simp at hj) (fun V hj => by rw [hvs] at hj; simp at hj) (by unfold maxLen; omega) (by omega) hb
      have k2 : Ch (fun i => (Value.slice Av M.length Cv).ownBlock = some i) w w' := (Ch.refl _ w).grown a3 (fun i hi => Or.inl hi)
      rcases a2.2 with ⟨e, q⟩ | ⟨g', cap', cur', e, _⟩
      · subst e
        refine ⟨none, 0, w', by rw [q]; exact a1, k2, ⟨fun i bt hbt => ?_⟩⟩
        have := (List.getElem?_eq_some_iff.1 hbt).1
        rw [List.length_append, List.length_map] at this
        omega
      · subst e
        exact ⟨_, cap', w', a1, k2, get k2 a2 (by rw [cellsB]) rfl fun b hb => a5.elim (fun e => hX1 b (by rw [← e]; exact hb)) (fun e => hX2 b (by have : w.heap.size = b := Option.some.inj (e.symm.trans hb); omega))⟩
    · obtain ⟨i0, hi, hz0, hz1, hz2⟩ := info_parts info_bs
      have hone : ∀ V ∈ vs, V.oneCell' = true := fun V hV => by
        obtain ⟨j, hj, e⟩ := List.getElem_of_mem hV
        obtain ⟨_, _, ⟨A, n, C, q⟩, _⟩ := hu3 j V (by rw [List.getElem?_eq_getElem hj, e])
        rw [q]; rfl
      obtain ⟨g2, cap2, w', a1, a2, a3, a4, a5⟩ := run_append_lies (P := Tryz.prog) w /-t-/37 /-t-/37 wa.heap.size /-t-/24 i0 (.slice none 0 0) 1 24 under_bs hi hz0 hz1 hz2 rfl (by decide) (.slice Av M.length Cv) M.length (cellsO elB M) h.own ⟨g, 0, none⟩ out.length cap vs (by omega) (fun j V hj => World.ownsRow.cells hu1 (g := g) rfl j V hj) hone (by omega) (by unfold maxLen; omega) (by omega) hb _ rfl
      have k2 : Ch (fun i => (Value.slice Av M.length Cv).ownBlock = some i) w w' := (Ch.refl _ w).grown a3 (fun i hi => Or.inl hi)
      exact ⟨_, cap2, w', a1, k2, get k2 a2 (by rw [cellsB]) rfl fun b hb => by
        have hb : some g2 = some b := hb
        injection hb with hb
        subst hb
        exact a4.elim (hX1 _) (fun e => hX2 _ (by omega))⟩
end Go.Proofs.YteleknojohnlbaaGreat
