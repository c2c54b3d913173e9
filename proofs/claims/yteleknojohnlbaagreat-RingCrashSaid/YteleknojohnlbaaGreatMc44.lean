/-
  RingCrash: a round, from world to world. RingCrash: a round's calls, one after another.
-/
import Derived.Test.YteleknojohnlbaaGreatMc43
import Derived.Test.YteleknojohnlbaaGreatMc38
namespace Go.Proofs.YteleknojohnlbaaGreat
open Go.RowKit
set_option linter.unusedVariables false
set_option maxRecDepth 100000
set_option linter.unusedSimpArgs false
theorem takes_bytes {vol : Int} {g : Gn} {d : Dev} {C : Nat → Nat → Ct} {sm : Pn → Int} (hL : DevL vol g d C) (hW : 0 < g.W) : ∀ {P : List Pn} {a : Pn} {s : Int} {k : Nat}, Takes g.W C sm a s k P → ∀ p ∈ P, ∀ y ∈ p.B, y < 256
  | [], _, _, _, _, p, hp => by simp at hp
  | q :: P, a, s, k, h, p, hp => by
    rcases List.mem_cons.1 hp with e | e
    · subst e
      have get : ∀ c, c < 2 → atS (tel (C c (k % g.W))) (k : Int) = some p → ∀ y ∈ p.B, y < 256 := fun c hc e => by
        have e1 := (atS_seq e).1
        have hd := hL c (k % g.W) hc (Nat.mod_lt _ hW)
        cases hct : C c (k % g.W) with
        | free => rw [hct] at e1; cases e1
        | bad => rw [hct] at e1; cases e1
        | pc q =>
          rw [hct] at e1 hd
          injection e1 with e1
          subst e1
          exact hd.2.2.2
      rcases mem_cand (List.mem_of_find?_eq_some h.1) with e | e
      · exact get 0 (by omega) e
      · exact get 1 (by omega) e
    · exact takes_bytes hL hW h.2 p e
theorem endS_word {vol : Int} {g : Ge} : ∀ {P : List Pn} {s : Int}, 0 ≤ s ∧ s ≤ 4294967295 → (∀ p ∈ P, ∀ y ∈ p.B, y < 256) → 0 ≤ endS (sumR vol g) s P ∧ endS (sumR vol g) s P ≤ 4294967295
  | [], _, h, _ => h
  | p :: P, _, _, hP => endS_word (P := P) (sumR_word (hP p (List.mem_cons_self ..))) fun q hq => hP q (List.mem_cons_of_mem _ hq)
theorem keeps_word {vol : Int} {g : Gn} {E : Int} {C : Nat → Nat → Ct} {T : List (List Pn)} {d : Dev} (h : Keeps g.W (sumR vol g.ge) E C T) (hL : DevL vol g d C) (hW : 0 < g.W) : 0 ≤ endS (sumR vol g.ge) 0 T.flatten ∧ endS (sumR vol g.ge) 0 T.flatten ≤ 4294967295 := by
  obtain ⟨L, _, h2, _⟩ := h.run
  exact endS_word ⟨by omega, by omega⟩ (takes_bytes hL hW (takes_front h2))
theorem fine_lims {N t : Nat} {d : Dev} (h : Fine N d) (ho : d.ops ≤ t) : Lim d t ∧ LimM d t :=
  ⟨⟨ho, by rw [h.qt.W]; exact Nat.zero_le _, fun a => by rw [h.drops a]; exact Nat.zero_le _⟩, fun a => by rw [h.miss a]; exact Nat.zero_le _⟩
theorem crTo_ops (d : Dev) (m : Nat) (q : Nat → Bool) : ∀ k, (crTo d m q k).ops = d.ops
  | 0 => rfl
  | k + 1 => by
    unfold crTo
    cases h : d.W[k]? with
    | none => exact crTo_ops d m q k
    | some e =>
      show (if keepB m q k then finD (crTo d m q k) e else crTo d m q k).ops = d.ops
      split
      · exact crTo_ops d m q k
      · exact crTo_ops d m q k
theorem arm_lims {d : Dev} {t : Nat} (h : Lim d t) (hm : LimM d t) (n : Int) : Lim (armD d n) t ∧ LimM (armD d n) t := ⟨⟨h.ops, h.W, h.drops⟩, hm⟩
structure CrP (w2 wa wb wr : World) (B : Nat) (n : Gn) (k : Nat) (d : Dev) (C : Nat → Nat → Ct) (T : List (List Pn)) (M : List Bv) (v : Value) : Prop where
  dev : OneX w2 (fun i => wa.heap.size ≤ i ∧ i < wb.heap.size) B d wr
  all : RwO kdB elB wa wb v M
  ch : Ch (fun i => ¬ (wa.heap.size ≤ i ∧ i < wb.heap.size)) wb wr
  s1 : w2.heap.size ≤ wa.heap.size
  s2 : wa.heap.size ≤ wb.heap.size
  told : M.map Bv.B = T.map joinP
  cnt : M.length ≤ 512
  kp : Keeps n.W (sumR 7 n.ge) (k : Int) C T
  fine : Fine (secsG n) d
  log : DevL 7 n d C
  ops : d.ops ≤ 2564 + 30000 * k
def CrS (w2 : World) (B : Nat) (n : Gn) (k : Nat) (v : Value) (nx ch : Int) (wr : World) : Prop :=
  ∃ wa wb d C T M, CrP w2 wa wb wr B n k d C T M v ∧ nx = ((T.flatten.length : Nat) : Int) ∧ ch = endS (sumR 7 n.ge) 0 T.flatten
theorem cr_start {w2 w4 : World} {B : Nat} {n : Gn} (h : One w2 B (bkD 7 (secsG n)) w4) (hn : n.Ok) : CrS w2 B n 0 (.slice none 0 0) 0 0 w4 := by
  obtain ⟨h1, p, h2, h3⟩ := h
  have hb := bk_fine 7 (secsG n)
  refine ⟨w4, w4, bkD 7 (secsG n), fun _ _ => .free, [], [], ⟨⟨h1, ⟨p, h2, h3, fun i hi => by omega⟩, fun i hi => by omega⟩, RwO.start _ _ _ _, Ch.refl _ _, h1.size, Nat.le_refl _, rfl, Nat.zero_le _, keeps_blank (by have := hn.w1; omega), hb.1, bk_log (secs_le n), ?_⟩, rfl, rfl⟩
  rw [hb.2.2]
  have := secs_max hn
  omega
section
variable {w2 wa wb wr w3 w4 w5 w6 w7 : World} {B R k : Nat} {n : Gn} {d d6 : Dev} {C : Nat → Nat → Ct} {T : List (List Pn)} {M : List Bv} {v v5 : Value} {s : AdS}
theorem CrP.beg (h : CrP w2 wa wb wr B n k d C T M v) (hn : n.Ok) (hk : k ≤ 3) : okN 7 n.ge ((k : Int) + 1) 0 ((T.flatten.length : Nat) : Int) (endS (sumR 7 n.ge) 0 T.flatten) = true ∧ BegX 7 n (k : Int) T (rgOf B 7 n.ge ((k : Int) + 1) 0 ((T.flatten.length : Nat) : Int) (endS (sumR 7 n.ge) 0 T.flatten)) := by
  have hl := keeps_len h.kp
  have hw1 := hn.w1
  have hw2 := hn.w2
  obtain ⟨c1, c2⟩ := keeps_word h.kp h.log (by omega)
  obtain ⟨c, hc⟩ : ∃ c, c = endS (sumR 7 n.ge) 0 T.flatten := ⟨_, rfl⟩
  obtain ⟨l, hl'⟩ : ∃ l, l = T.flatten.length := ⟨_, rfl⟩
  rw [← hc] at c1 c2 ⊢
  rw [← hl'] at hl ⊢
  constructor
  · unfold okN
    have e : wordsTo (wordsN 7 ((k : Int) + 1) 0 (l : Int) c) 5 = (((((true && wordB 7) && wordB ((k : Int) + 1)) && wordB 0) && wordB (l : Int)) && wordB c) := rfl
    rw [ok_may hn, e, wordB_iff.2 (show 0 ≤ (7 : Int) ∧ (7 : Int) ≤ 4294967295 by omega), wordB_iff.2 (show 0 ≤ (k : Int) + 1 ∧ (k : Int) + 1 ≤ 4294967295 by omega), wordB_iff.2 (show 0 ≤ (0 : Int) ∧ (0 : Int) ≤ 4294967295 by omega), wordB_iff.2 (show 0 ≤ (l : Int) ∧ (l : Int) ≤ 4294967295 by omega), wordB_iff.2 ⟨c1, c2⟩]
    show inB ((l : Int) - 0) 0 (n.W : Int) = true
    exact inB_true.2 ⟨by omega, by omega⟩
  · exact ⟨⟨ok_may hn, ⟨by show (0 : Int) ≤ 7; omega, by show (7 : Int) ≤ _; omega⟩, ⟨by show (0 : Int) ≤ (k : Int) + 1; omega, by show (k : Int) + 1 ≤ _; omega⟩, ⟨by show (0 : Int) ≤ (l : Int); omega, Int.le_refl _⟩, ⟨c1, c2⟩, by show (l : Int) ≤ _; omega, ⟨Int.le_refl _, by show (0 : Int) ≤ (l : Int); omega⟩⟩, rfl, rfl, rfl, rfl, rfl, by rw [hl']; rfl, hc⟩
theorem CrP.lims (h : CrP w2 wa wb wr B n k d C T M v) : Lim d (2564 + 30000 * k) ∧ LimM d (2564 + 30000 * k) := fine_lims h.fine h.ops
theorem CrP.mid (h : CrP w2 wa wb wr B n k d C T M v) (h3 : Ch (fun _ => False) wr w3) (h4 : Ch (fun i => w2.heap.size ≤ i ∧ ¬ (wa.heap.size ≤ i ∧ i < wb.heap.size)) w3 w4) (hw4 : Ch (fun _ => False) w2 w4) (h5 : AdX w2 w4 (fun i => wa.heap.size ≤ i ∧ i < wb.heap.size) B R s v5 w5)
    (c6 : Ch (fun i => w2.heap.size ≤ i ∧ ¬ ((wa.heap.size ≤ i ∧ i < wb.heap.size) ∨ v5.ownBlock = some i)) w5 w6) : RwO kdB elB wa w6 v M ∧ OutW w2 w6 v5 s.out ∧ wb.heap.size ≤ w6.heap.size := by
  have c45 : Ch (fun i => ¬ (wa.heap.size ≤ i ∧ i < wb.heap.size)) w4 w5 := ⟨h5.rg.ch.os.trans hw4.os.symm, h5.rg.ch.tape.trans hw4.tape.symm, h5.rg.ch.output.trans hw4.output.symm, h5.sz, fun i hi hX => h5.keep i (Classical.not_not.1 hX)⟩
  have c : Ch (fun i => ¬ (wa.heap.size ≤ i ∧ i < wb.heap.size)) wb w6 := (((h.ch.trans (h3.mono fun _ _ f => f.elim)).trans (h4.mono fun _ _ q => q.2)).trans c45).trans (c6.mono fun i _ q x => q.2 (Or.inl x))
  refine ⟨h.all.ch c fun i hi hlo => ?_, h5.out.ch c6 fun i hi q => q.2 (Or.inr hi), c.size⟩
  have hge : ∀ o, wb.heap[i]? = some o → False := fun o e => hi ⟨hlo, blk_lt e⟩
  exact ⟨fun ⟨_, e⟩ => hge _ e, fun ⟨_, e⟩ => hge _ e⟩
theorem AllV.bound {X : Nat → Prop} {w : World} {A : Option Addr} {rows : List (List Nat)} (h : AllV w2 X w A rows) : AllV w2 (fun i => X i ∧ i < w.heap.size) w A rows :=
  ⟨fun i bt hb => by
    obtain ⟨b, o, A', C', h1, h2, h3, h4, h5⟩ := h.at' i bt hb
    refine ⟨b, o, A', C', h1, ⟨h2, World.block_lt_of_cell? _ _ h3⟩, h3, h4, fun sb so e hp => ?_⟩
    rcases h5 sb so e hp with q | q
    · subst e
      obtain ⟨b', o', e2, hc⟩ := h4.at hp
      injection e2 with e2
      injection e2 with e2 _
      exact Or.inl ⟨q, by rw [e2]; exact World.block_lt_of_cell? _ _ (hc 0 hp)⟩
    · exact Or.inr q⟩
theorem CrP.app (h : CrP w2 wa wb wr B n k d C T M v) {X : Nat → Prop} (hX : X = fun i => (wa.heap.size ≤ i ∧ i < wb.heap.size) ∨ v5.ownBlock = some i) (h6 : RgW w2 X B R d6 s.x w6) (ha : RwO kdB elB wa w6 v M) (ho : OutW w2 w6 v5 s.out) (hb : wb.heap.size ≤ w6.heap.size) (hl : s.out.length ≤ 12) :
    ∃ A c w7 X7, (Builtin.append_ #[ /-t-/37, /-t-/37] /-t-/37 #[v, v5]).run Tryz.prog w6 = .ok (.slice A (M.length + s.out.length) c) w7 ∧ AllV w2 X7 w7 A (M.map Bv.B ++ s.out) ∧ RgW w2 X7 B R d6 s.x w7 := by
  have hlo := fun i (e : v.ownBlock = some i) => own_at h.all.own e
  have hvX : ∀ i, v.ownBlock = some i → wa.heap.size ≤ i ∧ i < wb.heap.size := fun i e => by
    obtain ⟨q, c, hc⟩ := hlo i e
    exact ⟨q, blk_lt hc⟩
  obtain ⟨A, c, w7, a1, a2, a3⟩ := all_app (X := fun i => X i ∨ w6.heap.size ≤ i) ha ho h6.ch h.s1 (Nat.le_trans h.s2 hb) (by have := h.cnt; omega) (by omega) (fun i e => Or.inl (by rw [hX]; exact Or.inl (hvX i e))) (fun i hi => Or.inr hi) (fun x hx sb so C e hp => by
    rcases (h.all.rows x hx).row with ⟨A', C', e2, _, q | ⟨sb', so', q⟩⟩
    · have q : x.B.length = 0 := q
      omega
    · have e3 : x.V = .slice (some ⟨sb', so', none⟩) x.B.length _ := q.eq
      rw [e] at e3
      injection e3 with e3 _ _
      injection e3 with e3
      injection e3 with e3 _
      obtain ⟨c, hc⟩ := q.blk
      refine Or.inl ?_
      rw [hX, e3]
      exact Or.inl ⟨q.lo, blk_lt hc⟩)
  refine ⟨A, c, w7, fun i => (X i ∨ w6.heap.size ≤ i) ∧ i < w7.heap.size, a1, a3.bound, h6.own a2 (fun i e => ⟨by rw [hX]; exact Or.inl (hvX i e), Nat.le_trans h.s1 (hvX i e).1⟩) (fun i hi => ?_)⟩
  rcases hi.1 with q | q
  · exact Or.inl q
  · exact Or.inr ⟨q, hi.2⟩
theorem ld2_is {N : Nat} (h : Qt N d) (hg : n.Ok) (hN : 4 + 2 * n.W ≤ N) : ld2 n.ge d = { d with ops := d.ops + n.W + n.W } := by
  have hW : n.ge.wal.toNat = n.W := Int.toNat_natCast _
  unfold ld2
  rw [hW]
  have e0 : ldD n.ge 0 d n.W = { d with ops := d.ops + n.W } := ld_reads h hg hN (c := 0) (by omega) n.W (Nat.le_refl _)
  have e1 : ldD n.ge 1 { d with ops := d.ops + n.W } n.W = _ := ld_reads (h.ops (d.ops + n.W)) hg hN (c := 1) (by omega) n.W (Nat.le_refl _)
  rw [e0, e1]
structure LifeD (n : Gn) (k : Nat) (T : List (List Pn)) (s : AdS) (L : List (List Nat)) (d6 : Dev) (C2 : Nat → Nat → Ct) (T2 : List (List Pn)) : Prop where
  kp : Keeps n.W (sumR 7 n.ge) ((k : Int) + 1) C2 T2
  fine : Fine (secsG n) d6
  log : DevL 7 n d6 C2
  told : T2.map joinP = T.map joinP ++ s.out ∨ (s.ok = false ∧ ∃ B ∈ L, T2.map joinP = T.map joinP ++ s.out ++ [B])
  ops : d6.ops ≤ 2564 + 30000 * k + 1664 * 12
theorem CrP.life (h : CrP w2 wa wb wr B n k d C T M v) (hn : n.Ok) (hk : k ≤ 3) {L : List (List Nat)} (hL : ∀ B ∈ L, ∀ y ∈ B, y < 256) (hm : L.length ≤ 12) (a : Int) (nk : Nat) (qf : Nat → Bool) {x : Rg} (hx : x = rgOf B 7 n.ge ((k : Int) + 1) 0 ((T.flatten.length : Nat) : Int) (endS (sumR 7 n.ge) 0 T.flatten)) :
    ∃ C2 T2, LifeD n k T (adTo ⟨armD d a, x, [], true⟩ L) L (crashD (adTo ⟨armD d a, x, [], true⟩ L).d nk qf) C2 T2 := by
  have hb := (h.beg hn hk).2
  rw [← hx] at hb
  obtain ⟨C2, T2, e1, e2, e3, e4⟩ := crash_life h.kp hn (secs_le n) h.fine h.log hb a hL nk qf
  have hl := arm_lims h.lims.1 h.lims.2 a
  have ha := ad_lim (s := ⟨armD d a, x, [], true⟩) hl.1 hl.2 L
  refine ⟨C2, T2, e1, e2, e3, e4, ?_⟩
  have ho : (crashD (adTo ⟨armD d a, x, [], true⟩ L).d nk qf).ops = (adTo ⟨armD d a, x, [], true⟩ L).d.ops := crTo_ops _ _ _ _
  rw [ho]
  have h1 := ha.1.ops
  have h2 : 1664 * L.length ≤ 1664 * 12 := Nat.mul_le_mul_left _ hm
  omega
theorem LifeD.follow {L : List (List Nat)} {C2 : Nat → Nat → Ct} {T2 : List (List Pn)} (h : LifeD n k T s L d6 C2 T2) (hn : n.Ok) {B0 B1 : Nat} {w8 : World} (h0 : BsV w8 (some ⟨B0, 0, none⟩) n.W n.W (ldN n.ge 0 d6) (ldZ n.ge 0 d6)) (h1 : BsV w8 (some ⟨B1, 0, none⟩) n.W n.W (ldN n.ge 1 (ldD n.ge 0 d6 n.W)) (ldZ n.ge 1 (ldD n.ge 0 d6 n.W))) :
    ∃ ep, Calls Tryz.prog 21 #[.slice (some ⟨B0, 0, none⟩) n.W n.W, .slice (some ⟨B1, 0, none⟩) n.W n.W, .int .i64 7, .agg (geC n.ge), .int .i64 0, .int .i64 0] w8 fun e w9 => ∃ A c M2, e = .returned (.tuple #[.agg (tlC ⟨T2.map joinP, ((T2.flatten.length : Nat) : Int), endS (sumR 7 n.ge) 0 T2.flatten⟩ ep (.slice A M2.length c)), .int .i64 0]) ∧ M2.map Bv.B = T2.map joinP ∧ M2.length ≤ 512 ∧ RwO kdB elB w8 w9 (.slice A M2.length c) M2 ∧ Ch (fun _ => False) w8 w9 := by
  have hmi : MiIs w8 (miOf 7 n d6 (some ⟨B0, 0, none⟩) (some ⟨B1, 0, none⟩) n.W n.W) := mi_is hn ⟨by omega, by omega⟩ h0 h1
  have hlm := logM_of h.fine.qt hn (secs_le n) (show 0 ≤ (7 : Int) ∧ (7 : Int) ≤ 4294967295 by omega) h.log (some ⟨B0, 0, none⟩) (some ⟨B1, 0, none⟩) n.W n.W
  obtain ⟨P, hP, ht⟩ := keeps_told h.kp hlm rfl rfl
  have hc := fol_count hn (m := miOf 7 n d6 (some ⟨B0, 0, none⟩) (some ⟨B1, 0, none⟩) n.W n.W) 0 0
  rw [hP] at hc
  have hc : (tailR (sumM (miOf 7 n d6 (some ⟨B0, 0, none⟩) (some ⟨B1, 0, none⟩) n.W n.W)) P ((0 : Nat) : Int) 0).txs.length ≤ 512 := hc
  rw [ht] at hc
  refine ⟨epR P, (rfollow_yes _ 0 0 w8 hmi (by omega) ⟨by omega, by omega⟩).mono ?_⟩
  intro e w9 hf
  obtain ⟨V, rfl, ⟨A, c, M2, rfl, hM, hO⟩, hc9⟩ := fol_ok hf hP ht rfl
  refine ⟨A, c, M2, rfl, hM, ?_, hO, hc9⟩
  have hM : M2.map Bv.B = T2.map joinP := hM
  rw [← List.length_map (f := Bv.B), hM]
  exact hc
theorem LifeD.next {L : List (List Nat)} {C2 : Nat → Nat → Ct} {T2 : List (List Pn)} {M2 : List Bv} {X7 : Nat → Prop} {x : Rg} {V : Value} {w8 w9 w10 : World} (h : LifeD n k T s L d6 C2 T2) (hn : n.Ok) (h8 : RgW w2 X7 B R (ld2 n.ge d6) x w8) (hR : RwO kdB elB w8 w9 V M2) (hM : M2.map Bv.B = T2.map joinP) (hc : M2.length ≤ 512) (c9 : Ch (fun _ => False) w8 w9) (c10 : Ch (fun _ => False) w9 w10) : CrS w2 B n (k + 1) V ((T2.flatten.length : Nat) : Int) (endS (sumR 7 n.ge) 0 T2.flatten) w10 := by
  have e := ld2_is h.fine.qt hn (secs_le n)
  have hw := hn.w2
  refine ⟨w8, w9, ld2 n.ge d6, C2, T2, M2, ⟨h8.toX.fresh (c9.trans c10) (fun i hi => Or.inr ⟨hi.1, Nat.lt_of_lt_of_le hi.2 c10.size⟩), hR, c10.mono (fun _ _ f => f.elim), h8.ch.size, c9.size, hM, hc, ?_, ?_, ?_, ?_⟩, rfl, rfl⟩
  · exact h.kp
  · rw [e]
    exact ⟨h.fine.qt.ops _, h.fine.drops, h.fine.miss⟩
  · rw [e]
    exact dev_same h.log (fun a => ⟨rfl, rfl⟩)
  · rw [e]
    show d6.ops + n.W + n.W ≤ _
    have := h.ops
    omega
end
end Go.Proofs.YteleknojohnlbaaGreat
namespace Go.Proofs.YteleknojohnlbaaGreat
open Go.RowKit
set_option linter.unusedVariables false
set_option maxRecDepth 100000
set_option linter.unusedSimpArgs false
theorem ad_outC (s : AdS) (L : List (List Nat)) : (adTo s L).out.length ≤ s.out.length + L.length := by
  refine snocI (P := fun l => (adTo s l).out.length ≤ s.out.length + l.length) (Nat.le_refl _) (fun l i ih => ?_) L
  rw [adTo_snoc]
  unfold adStep
  split
  · split
    · rw [List.length_append]; exact Nat.le_trans ih (by omega)
    · split
      · show ((adTo s l).out ++ [i]).length ≤ _
        rw [List.length_append, List.length_append]
        simp only [List.length_cons, List.length_nil]
        omega
      · rw [List.length_append]; exact Nat.le_trans ih (by omega)
  · rw [List.length_append]; exact Nat.le_trans ih (by omega)
structure CrA (w2 wa wb wr : World) (B R : Nat) (n : Gn) (k : Nat) (d : Dev) (C : Nat → Nat → Ct) (T : List (List Pn)) (M : List Bv) (v : Value) (x : Rg) (w3 : World) : Prop where
  P : CrP w2 wa wb wr B n k d C T M v
  c3 : Ch (fun _ => False) wr w3
  x : x = rgOf B 7 n.ge ((k : Int) + 1) 0 ((T.flatten.length : Nat) : Int) (endS (sumR 7 n.ge) 0 T.flatten)
def S3 (w2 : World) (B : Nat) (n : Gn) (k : Nat) (v : Value) (R : Nat) (w3 : World) : Prop :=
  ∃ wa wb wr d C T M x, CrA w2 wa wb wr B R n k d C T M v x w3 ∧ RgW w2 (fun i => wa.heap.size ≤ i ∧ i < wb.heap.size) B R d x w3
def S4 (w2 : World) (B : Nat) (n : Gn) (k : Nat) (v : Value) (R : Nat) (dk : Int) (w4 : World) : Prop :=
  ∃ wa wb wr w3 d C T M x, CrA w2 wa wb wr B R n k d C T M v x w3 ∧ RgW w2 (fun i => wa.heap.size ≤ i ∧ i < wb.heap.size) B R (armD d dk) x w4 ∧ Ch (fun i => w2.heap.size ≤ i ∧ ¬ (wa.heap.size ≤ i ∧ i < wb.heap.size)) w3 w4
def S5 (w2 : World) (B : Nat) (n : Gn) (k : Nat) (v : Value) (R : Nat) (dk : Int) (L : List (List Nat)) (v5 : Value) (ok : Bool) (w5 : World) : Prop :=
  ∃ wa wb wr w3 w4 d C T M x s, CrA w2 wa wb wr B R n k d C T M v x w3 ∧ Ch (fun i => w2.heap.size ≤ i ∧ ¬ (wa.heap.size ≤ i ∧ i < wb.heap.size)) w3 w4 ∧ Ch (fun _ => False) w2 w4 ∧ s = adTo ⟨armD d dk, x, [], true⟩ L ∧ ok = s.ok ∧ AdX w2 w4 (fun i => wa.heap.size ≤ i ∧ i < wb.heap.size) B R s v5 w5
def S6 (w2 : World) (B : Nat) (n : Gn) (k : Nat) (v : Value) (R : Nat) (L : List (List Nat)) (v5 : Value) (ok : Bool) (w6 : World) : Prop :=
  ∃ wa wb wr d C T M s C2 T2 d6, CrP w2 wa wb wr B n k d C T M v ∧ RwO kdB elB wa w6 v M ∧ OutW w2 w6 v5 s.out ∧ wb.heap.size ≤ w6.heap.size ∧ s.out.length ≤ 12 ∧ ok = s.ok ∧ LifeD n k T s L d6 C2 T2 ∧ RgW w2 (fun i => (wa.heap.size ≤ i ∧ i < wb.heap.size) ∨ v5.ownBlock = some i) B R d6 s.x w6
def S7 (w2 : World) (B : Nat) (n : Gn) (k : Nat) (R : Nat) (L : List (List Nat)) (ok : Bool) (A : Option Addr) (rows : List (List Nat)) (d6 : Dev) (w7 : World) : Prop :=
  ∃ X T s C2 T2, AllV w2 X w7 A rows ∧ rows = T.map joinP ++ s.out ∧ ok = s.ok ∧ LifeD n k T s L d6 C2 T2 ∧ RgW w2 X B R d6 s.x w7
def S8 (w2 : World) (B : Nat) (n : Gn) (k : Nat) (R : Nat) (L : List (List Nat)) (ok : Bool) (A : Option Addr) (rows : List (List Nat)) (d6 : Dev) (w8 : World) : Prop :=
  ∃ X T s C2 T2, AllV w2 X w8 A rows ∧ rows = T.map joinP ++ s.out ∧ ok = s.ok ∧ LifeD n k T s L d6 C2 T2 ∧ RgW w2 X B R (ld2 n.ge d6) s.x w8
structure S9 (w2 : World) (B : Nat) (n : Gn) (k : Nat) (L : List (List Nat)) (ok : Bool) (A : Option Addr) (rows : List (List Nat)) (A9 : Option Addr) (c9 : Nat) (M2 : List Bv) (rowsT : List (List Nat)) (nx ch : Int) (w9 : World) : Prop where
  all : ∃ X, AllV w2 X w9 A rows
  tl : RwV kdB elB w9 A9 c9 M2
  map : M2.map Bv.B = rowsT
  cnt : M2.length ≤ 512
  told : rowsT = rows ∨ (ok = false ∧ ∃ Bx ∈ L, rowsT = rows ++ [Bx])
  next : ∀ w10, Ch (fun _ => False) w9 w10 → CrS w2 B n (k + 1) (.slice A9 M2.length c9) nx ch w10
section
variable {w2 wr w3 w4 w5 w6 w7 w8 : World} {B R k : Nat} {n : Gn} {v v5 : Value} {ok : Bool} {L rows : List (List Nat)} {dk : Int} {d6 : Dev} {A : Option Addr}
theorem CrS.new {nx ch : Int} (h : CrS w2 B n k v nx ch wr) (hn : n.Ok) (hk : k ≤ 3) : Calls Tryz.prog 26 #[.pointer (some ⟨B, 0, none⟩), .int .i64 7, .agg (geC n.ge), .int .i64 ((k : Int) + 1), .int .i64 0, .int .i64 nx, .int .i64 ch] wr fun e w3 => ∃ R, e = .returned (.tuple #[.pointer (some ⟨R, 0, none⟩), .int .i64 0]) ∧ S3 w2 B n k v R w3 := by
  obtain ⟨wa, wb, d, C, T, M, hP, rfl, rfl⟩ := h
  obtain ⟨h1, h2⟩ := hP.beg (B := B) hn hk
  refine (rgNew_any B 7 n.ge _ 0 _ _ wr).mono ?_
  rintro e w3 hnw
  unfold NewPost at hnw
  rw [h1] at hnw
  obtain ⟨R, rfl, hR1, hR2, hc⟩ := hnw
  exact ⟨R, rfl, wa, wb, wr, d, C, T, M, _, ⟨hP, hc, rfl⟩, RgW.startX hP.dev hc hR2 hR1 rfl⟩
theorem S3.arm (h : S3 w2 B n k v R w3) (hd : I64 dk) : Calls Tryz.prog 32 #[.pointer (some ⟨B, 0, none⟩), .int .i64 dk] w3 fun e w4 => e = .returned (.tuple #[]) ∧ S4 w2 B n k v R dk w4 := by
  obtain ⟨wa, wb, wr, d, C, T, M, x, hA, hr⟩ := h
  refine (hr.call (d' := armD d dk) (r := .tuple #[]) fun p e hp => by subst e; exact arm_any _ p d dk w3 hp hd).mono ?_
  rintro e w4 ⟨rfl, h1, h2⟩
  exact ⟨rfl, wa, wb, wr, w3, d, C, T, M, x, hA, h1, h2⟩
theorem S4.appd {m C : Nat} {N : Nat → Nat} {Z : Nat → Nat → Nat} (h : S4 w2 B n k v R dk w4) (hn : n.Ok) (hk : k ≤ 3) (hL : BsV w2 A m C N Z) (hm : m ≤ 12) : Calls Tryz.prog 27 #[.pointer (some ⟨R, 0, none⟩), .slice A m C] w4 fun e w5 => ∃ v5 ok, e = .returned (.tuple #[v5, .bool ok]) ∧ S5 w2 B n k v R dk (rowsL N Z m) v5 ok w5 := by
  obtain ⟨wa, wb, wr, w3, d, Cc, T, M, x, hA, hr, hc⟩ := h
  obtain ⟨h1, h2⟩ := hA.P.beg (B := B) hn hk
  rw [← hA.x] at h2
  have hl := arm_lims hA.P.lims.1 hA.P.lims.2 dk
  refine (appendedX_any w2 _ B R (armD d dk) x A m C (2564 + 30000 * k) N Z w4 hr h2.ok hL hm hl.1 hl.2 (by omega)).mono ?_
  rintro e w5 ⟨v5, rfl, h5⟩
  exact ⟨v5, _, rfl, wa, wb, wr, w3, w4, d, Cc, T, M, x, _, hA, hc, hr.ch, rfl, rfl, h5⟩
theorem S5.crash {Ak : Option Addr} {nk Ck : Nat} {q : Nat → Bool} (h : S5 w2 B n k v R dk L v5 ok w5) (hn : n.Ok) (hk : k ≤ 3) (hL : ∀ B ∈ L, ∀ y ∈ B, y < 256) (hm : L.length ≤ 12) (hK : RowQ w2 (.slice Ak nk Ck) nk q) : Calls Tryz.prog 33 #[.pointer (some ⟨B, 0, none⟩), .slice Ak nk Ck] w5 fun e w6 => e = .returned (.tuple #[]) ∧ S6 w2 B n k v R L v5 ok w6 := by
  obtain ⟨wa, wb, wr, w3, w4, d, C, T, M, x, s, hA, hc, hw4, hs, hok, h5⟩ := h
  have hl := arm_lims hA.P.lims.1 hA.P.lims.2 dk
  have hl2 := ad_lim (s := ⟨armD d dk, x, [], true⟩) hl.1 hl.2 L
  rw [← hs] at hl2
  have hm2 : 1664 * L.length ≤ 1664 * 12 := Nat.mul_le_mul_left _ hm
  refine (h5.rg.call (d' := crashD s.d nk q) (r := .tuple #[]) fun p e hp => by
    subst e
    refine crash_any _ p s.d Ak nk Ck q w5 hp (Nat.le_trans hl2.1.W (by omega)) (hK.gr h5.rg.ch) fun b o e h0 hf => ?_
    obtain ⟨b', o', e', hcell⟩ := hK.at h0
    rw [e] at e'
    injection e' with e'
    injection e' with e' _
    have h1 := World.block_lt_of_cell? _ _ (hcell 0 h0)
    have h2 := (hp.foot hf).1
    have h1 : b' < w2.heap.size := h1
    omega).mono ?_
  rintro e w6 ⟨rfl, h6, c6⟩
  obtain ⟨C2, T2, hlf⟩ := hA.P.life hn hk hL hm dk nk q hA.x
  rw [← hs] at hlf
  obtain ⟨m1, m2, m3⟩ := hA.P.mid hA.c3 hc hw4 h5 c6
  have ho := ad_outC ⟨armD d dk, x, [], true⟩ L
  rw [← hs] at ho
  have ho : s.out.length ≤ 0 + L.length := ho
  exact ⟨rfl, wa, wb, wr, d, C, T, M, s, C2, T2, _, hA.P, m1, m2, m3, by omega, hok, hlf, h6⟩
theorem S6.app (h : S6 w2 B n k v R L v5 ok w6) : ∃ A c w7 rows d6, (Builtin.append_ #[ /-t-/37, /-t-/37] /-t-/37 #[v, v5]).run Tryz.prog w6 = .ok (.slice A rows.length c) w7 ∧ Hid (rows.length ≤ 524) ∧ Hid (S7 w2 B n k R L ok A rows d6 w7) := by
  obtain ⟨wa, wb, wr, d, C, T, M, s, C2, T2, d6, hP, h1, h2, h3, h4, hok, h5, h6⟩ := h
  obtain ⟨A, c, w7, X, a1, a2, a3⟩ := hP.app rfl h6 h1 h2 h3 h4
  have e : M.length + s.out.length = (T.map joinP ++ s.out).length := by
    rw [List.length_append, ← hP.told, List.length_map]
  have hc := hP.cnt
  rw [hP.told] at a2
  rw [e] at a1
  exact ⟨A, c, w7, _, d6, a1, Lib.hid (by omega), Lib.hid ⟨X, T, s, C2, T2, a2, rfl, hok, h5, a3⟩⟩
theorem S7.load (h : S7 w2 B n k R L ok A rows d6 w7) (hn : n.Ok) (hk : k ≤ 3) : Calls Tryz.prog 29 #[.pointer (some ⟨B, 0, none⟩), .agg (geC n.ge)] w7 fun e w8 => ∃ B0 B1, e = .returned (.tuple #[.slice (some ⟨B0, 0, none⟩) n.W n.W, .slice (some ⟨B1, 0, none⟩) n.W n.W]) ∧ BsV w8 (some ⟨B0, 0, none⟩) n.W n.W (ldN n.ge 0 d6) (ldZ n.ge 0 d6) ∧ BsV w8 (some ⟨B1, 0, none⟩) n.W n.W (ldN n.ge 1 (ldD n.ge 0 d6 n.W)) (ldZ n.ge 1 (ldD n.ge 0 d6 n.W)) ∧ S8 w2 B n k R L ok A rows d6 w8 := by
  obtain ⟨X, T, s, C2, T2, h1, hr, hok, h2, h3⟩ := h
  have ho := h2.ops
  have hl := fine_lims (t := 2564 + 30000 * k + 1664 * 12) h2.fine ho
  refine (h3.load hn hl.1 (by omega)).mono ?_
  rintro e w8 ⟨B0, B1, rfl, b0, b1, h8, c8⟩
  exact ⟨B0, B1, rfl, b0, b1, X, T, s, C2, T2, h1.ch c8 (fun i hi => ⟨hi.2, hi.1⟩), hr, hok, h2, h8⟩
theorem S8.follow (h : S8 w2 B n k R L ok A rows d6 w8) (hn : n.Ok) {B0 B1 : Nat} (h0 : BsV w8 (some ⟨B0, 0, none⟩) n.W n.W (ldN n.ge 0 d6) (ldZ n.ge 0 d6)) (h1 : BsV w8 (some ⟨B1, 0, none⟩) n.W n.W (ldN n.ge 1 (ldD n.ge 0 d6 n.W)) (ldZ n.ge 1 (ldD n.ge 0 d6 n.W))) :
    Calls Tryz.prog 21 #[.slice (some ⟨B0, 0, none⟩) n.W n.W, .slice (some ⟨B1, 0, none⟩) n.W n.W, .int .i64 7, .agg (geC n.ge), .int .i64 0, .int .i64 0] w8 fun e w9 => ∃ ep A9 c9 M2 rowsT nx ch, e = .returned (.tuple #[.agg (tlC ⟨rowsT, nx, ch⟩ ep (.slice A9 M2.length c9)), .int .i64 0]) ∧ S9 w2 B n k L ok A rows A9 c9 M2 rowsT nx ch w9 := by
  obtain ⟨X, T, s, C2, T2, a1, hr, hok, a2, a3⟩ := h
  obtain ⟨ep, hf⟩ := a2.follow hn h0 h1
  refine hf.mono ?_
  rintro e w9 ⟨A9, c9, M2, rfl, hM, hl, hO, hc⟩
  refine ⟨ep, A9, c9, M2, _, _, _, rfl, ⟨⟨X, a1.gr hc⟩, hO.read (by omega), hM, hl, ?_, fun w10 c10 => a2.next hn a3 hO hM hl hc c10⟩⟩
  rw [hr, hok]
  exact a2.told
theorem CrS.ch' {nx ch : Int} (h : CrS w2 B n k v nx ch wr) : Ch (fun _ => False) w2 wr := by
  obtain ⟨wa, wb, d, C, T, M, hP, _⟩ := h
  exact hP.dev.ch
theorem S3.ch (h : S3 w2 B n k v R w3) : Ch (fun _ => False) w2 w3 := by
  obtain ⟨_, _, _, _, _, _, _, _, _, hr⟩ := h
  exact hr.ch
theorem S4.ch (h : S4 w2 B n k v R dk w4) : Ch (fun _ => False) w2 w4 := by
  obtain ⟨_, _, _, _, _, _, _, _, _, _, hr, _⟩ := h
  exact hr.ch
theorem S7.ch (h : S7 w2 B n k R L ok A rows d6 w7) : Ch (fun _ => False) w2 w7 := by
  obtain ⟨_, _, _, _, _, _, _, _, _, h6⟩ := h
  exact h6.ch
theorem S8.ch (h : S8 w2 B n k R L ok A rows d6 w8) : Ch (fun _ => False) w2 w8 := by
  obtain ⟨_, _, _, _, _, _, _, _, _, h6⟩ := h
  exact h6.ch
end
section
variable {w2 w9 wr w : World} {B k : Nat} {n : Gn} {L : List (List Nat)} {ok : Bool} {A A9 : Option Addr} {rows rowsT : List (List Nat)} {c9 : Nat} {M2 : List Bv} {nx cc : Int}
theorem S9.ch (h : S9 w2 B n k L ok A rows A9 c9 M2 rowsT nx cc w9) : Ch (fun _ => False) w2 w9 := (h.next w9 (Ch.refl _ _)).ch'
theorem S9.len (h : S9 w2 B n k L ok A rows A9 c9 M2 rowsT nx cc w9) : M2.length = rows.length ∨ (M2.length = rows.length + 1 ∧ ok = false) := by
  have e : M2.length = rowsT.length := by rw [← h.map, List.length_map]
  rcases h.told with q | ⟨q, Bx, _, q2⟩
  · exact Or.inl (by rw [e, q])
  · exact Or.inr ⟨by rw [e, q2, List.length_append]; rfl, q⟩
theorem S9.row (h : S9 w2 B n k L ok A rows A9 c9 M2 rowsT nx cc w9) {j : Nat} {bt : List Nat} (hj : rowsT[j]? = some bt) (hc : Ch (fun _ => False) w9 wr) : ∃ b o A' C', A9 = some ⟨b, o, none⟩ ∧ wr.cell? ⟨b, o + j, none⟩ = some (.slice A' bt.length C') ∧ RowV wr (.slice A' bt.length C') bt.length (Cod.litZ bt) := by
  rw [← h.map, List.getElem?_map] at hj
  cases hx : M2[j]? with
  | none => rw [hx] at hj; cases hj
  | some x =>
    rw [hx] at hj
    injection hj with hj
    have hj : x.B = bt := hj
    obtain ⟨b, o, hA, hcs⟩ := h.tl.at' (Nat.lt_of_le_of_lt (Nat.zero_le _) (List.getElem?_eq_some_iff.1 hx).1)
    have c2 := hcs j x hx 0 x.V rfl
    obtain ⟨hv, _⟩ := h.tl.rows x (List.mem_of_getElem? hx)
    have hv : RowV w9 x.V x.B.length (Cod.litZ x.B) := hv
    obtain ⟨A3, C3, e3, _⟩ := id hv
    have c2 : w9.cell? ⟨b, o + j * 1 + 0, none⟩ = some x.V := c2
    rw [Nat.mul_one, Nat.add_zero] at c2
    rw [e3, hj] at c2
    rw [e3, hj] at hv
    exact ⟨b, o, A3, C3, hA, hc.cell c2 (fun f => f), hv.gr hc⟩
theorem S9.front (h : S9 w2 B n k L ok A rows A9 c9 M2 rowsT nx cc w9) {j : Nat} (hj : j < rows.length) : rowsT[j]? = rows[j]? := by
  rcases h.told with q | ⟨_, Bx, _, q2⟩
  · rw [q]
  · rw [q2, List.getElem?_append_left hj]
theorem S9.cmp (h : S9 w2 B n k L ok A rows A9 c9 M2 rowsT nx cc w9) {j : Nat} (hj : j < rows.length) (hc : Ch (fun _ => False) w9 wr) :
    ∃ b o b2 o2 A' C' A3 C3 nb, A = some ⟨b, o, none⟩ ∧ A9 = some ⟨b2, o2, none⟩ ∧ wr.cell? ⟨b, o + j, none⟩ = some (.slice A' nb C') ∧ wr.cell? ⟨b2, o2 + j, none⟩ = some (.slice A3 nb C3) ∧ Hid (∀ i, Calls Tryz.prog 14 #[.slice A3 nb C3, .slice A' nb C'] (wr.drewN i) (Qu (.bool true) (wr.drewN i))) := by
  obtain ⟨X, hX⟩ := h.all
  have hr : rows[j]? = some rows[j] := List.getElem?_eq_getElem hj
  obtain ⟨b, o, A', C', hA, _, c1, r1, _⟩ := hX.at' j _ hr
  obtain ⟨b2, o2, A3, C3, hA2, c2, r2⟩ := h.row ((h.front hj).trans hr) hc
  refine ⟨b, o, b2, o2, A', C', A3, C3, _, hA, hA2, hc.cell c1 (fun f => f), c2, Lib.hid fun i => ?_⟩
  have hs := same_any A3 A' rows[j].length rows[j].length C3 C' (Cod.litZ rows[j]) (Cod.litZ rows[j]) (wr.drewN i) (r2.drewN i) ((r1.gr hc).drewN i)
  rwa [eqB_yes rfl (fun _ _ => rfl)] at hs
theorem meas_of {m k : Nat} {x y : Value} (ha : x = .int .i64 ((k : Int) + 1)) (hb : y = .int .i64 (k : Int)) (h : k < m) : m - (intOf x).toNat < m - (intOf y).toNat := by
  rw [ha, hb]
  show m - ((k : Int) + 1).toNat < m - ((k : Int)).toNat
  omega
def anyTo (f : Nat → Bool) : Nat → Bool
  | 0 => false
  | m + 1 => anyTo f m || f m
theorem anyTo_at {f : Nat → Bool} {j : Nat} (hf : f j = true) : ∀ {m : Nat}, j < m → anyTo f m = true
  | m + 1, h => by
    unfold anyTo
    by_cases e : j = m
    · subst e; rw [hf, Bool.or_true]
    · rw [anyTo_at hf (m := m) (by omega), Bool.true_or]
theorem S9.last {m C : Nat} {N : Nat → Nat} {Z : Nat → Nat → Nat} (h : S9 w2 B n k (rowsL N Z m) ok A rows A9 c9 M2 rowsT nx cc w9) (hl : M2.length = rows.length + 1) :
    ∃ hit : Nat → Bool, anyTo hit m = true ∧ ∀ (A0 : Option Addr) (w wr : World), BsV w A0 m C N Z → Ch (fun _ => False) w wr → Ch (fun _ => False) w9 wr → ∀ j, j < m → ∃ b2 o2 A3 C3 n3 b o A' C', A9 = some ⟨b2, o2, none⟩ ∧ wr.cell? ⟨b2, o2 + rows.length, none⟩ = some (.slice A3 n3 C3) ∧ A0 = some ⟨b, o, none⟩ ∧ wr.cell? ⟨b, o + j, none⟩ = some (.slice A' (N j) C') ∧ Hid (∀ i, Calls Tryz.prog 14 #[.slice A3 n3 C3, .slice A' (N j) C'] (wr.drewN i) (Qu (.bool (hit j)) (wr.drewN i))) := by
  obtain ⟨Bx, hBx, hT⟩ : ∃ Bx ∈ rowsL N Z m, rowsT = rows ++ [Bx] := by
    rcases h.told with q | ⟨_, q⟩
    · have e : M2.length = rowsT.length := by rw [← h.map, List.length_map]
      rw [q] at e
      omega
    · exact q
  refine ⟨fun j => eqB Bx.length (N j) (Cod.litZ Bx) (Z j), ?_, ?_⟩
  · unfold rowsL at hBx
    obtain ⟨i, hi, rfl⟩ := List.mem_map.1 hBx
    refine anyTo_at (j := i) ?_ (List.mem_range.1 hi)
    exact decide_eq_true ⟨rowL_len' _ _, fun c hc => rowL_litz _ _ (by rwa [rowL_len'] at hc)⟩
  · intro A0 w wr hb hw hc j hj
    have hr : rowsT[rows.length]? = some Bx := by rw [hT, List.getElem?_append_right (Nat.le_refl _), Nat.sub_self]; rfl
    obtain ⟨b2, o2, A3, C3, hA2, c2, r2⟩ := h.row hr hc
    obtain ⟨b, o, hA, hcs⟩ := hb.at' (by omega)
    obtain ⟨A', C', c1, r1⟩ := hcs j hj
    refine ⟨b2, o2, A3, C3, _, b, o, A', C', hA2, c2, hA, hw.cell c1 (fun f => f), Lib.hid fun i => ?_⟩
    exact same_any A3 A' Bx.length (N j) C3 C' (Cod.litZ Bx) (Z j) (wr.drewN i) (r2.drewN i) ((r1.gr hw).drewN i)
end
end Go.Proofs.YteleknojohnlbaaGreat
