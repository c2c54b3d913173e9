/-
  The law's told: what a tree hands on, walked.
-/
import Derived.Test.YtkpgaejmhddkdaaTrFb
import Derived.Test.YtkpgaejmhddkdaaTreB
namespace Go.Proofs.Ytkpgaejmhddkdaa
open Go.RowKit
set_option linter.unusedVariables false
set_option maxRecDepth 100000
set_option linter.unusedSimpArgs false
attribute [local go_sem] Oper.semAt_some wide_fn wide_depth

theorem eql_hand (f : Fn) (a c : Array Value) (w : World) : (binOp .eql 45 (.func f a c) .nilFunc).run Try.prog w = .ok (.bool false) w := by
  obtain ⟨x, y, z, hu⟩ : ∃ x y z, Try.prog.underlying 45 = some (.func x y z) := ⟨_, _, _, Try.underlying45⟩
  have hg : ∀ n, (Op.equalIn (n + 1) 45 (.func f a c) .nilFunc).run Try.prog w = .ok false w := fun n => by simp [Op.equalIn, run_underlying hu]
  have hm : (Op.equalIn Op.maxDepth 45 (.func f a c) .nilFunc).run Try.prog w = .ok false w := hg 9999
  simp [binOp, Op.equal, hm]
/-- At most so many; all, if it is below 0. -/
def cutL (most : Int) (l : List Kv) : List Kv := if most < 0 then l else l.take most.toNat
def TldP (w : World) (l : List Kv) (e : Ending) (w' : World) : Prop := ∃ v, e = .returned v ∧ FlO kdKv w w' v l ∧ Ch (fun _ => False) w w'
def TldI (E : Nat) (w1 : World) (l : List Kv) (W : World) : Prop := ∃ v, W.heap[E]? = some (.cells #[v] 29 (0, 0)) ∧ FlO kdKv w1 W v l ∧ Ch (fun i => i = E) w1 W
theorem fromL_le (L : List Kv) (k : ByteArray) : (fromL L k).length ≤ L.length := by
  unfold fromL
  exact List.length_filter_le _ _
theorem TreeO.le {w : World} {o : Option Nat} {h : Nat} {L : List Kv} (q : TreeO w o h L) : L.length ≤ 1000000 := by
  cases o with
  | none => rw [q.2]; exact Nat.zero_le _
  | some t =>
    obtain ⟨F, root, m, _, _, _, _, _, hl⟩ := q
    exact hl
theorem TldI.own {E : Nat} {w1 : World} {l : List Kv} {W W' : World} {row : Option Nat} (q : TldI E w1 l W) (hg : W.grownBy W' row) (hr : ∀ r, row = some r → ∃ o : Obj, W.heap[r]? = some o ∧ o.isCells = false) (hb : ∀ r, row = some r → w1.heap.size ≤ r) : TldI E w1 l W' := by
  obtain ⟨v, h1, h2, h3⟩ := q
  have hnc : ∀ i c t f, W.heap[i]? = some (.cells c t f) → ¬ row = some i := fun i c t f hc e => by
    obtain ⟨o, ho, hn⟩ := hr i e
    rw [hc] at ho; cases ho; cases hn
  refine ⟨v, ((row_ch hg).block E (blk_lt h1) (hnc E _ _ _ h1)).trans h1, h2.ch (row_ch hg) fun i hi => ?_, ch_then h3 (row_ch hg) fun i e => Or.inr (hb i e)⟩
  obtain ⟨_, c, hc⟩ := own_at h2 hi
  exact hnc i _ _ _ hc
theorem TreeO.below {w W : World} {o : Option Nat} {h : Nat} {L : List Kv} (q : TreeO w o h L) (k : Below w.heap.size w W) : TreeO W o h L := by
  cases o with
  | none => exact q
  | some t =>
    obtain ⟨F, root, m, h1, h2, h3, h4, h5, h6⟩ := q
    exact ⟨F, root, m, (k.block t (blk_lt h1)).trans h1, TrIs.keep (fun i hi => k.block i (h5 i hi).1) h2, h3, h4, fun i hi => ⟨Nat.lt_of_lt_of_le (h5 i hi).1 k.size, (h5 i hi).2⟩, h6⟩
theorem zipK (y : Kv) (t : Array Value) : ((#[21, 22] : Array Tmp).zip (encK y)).foldl (fun t (p, v) => t.setIfInBounds p v) t = (t.setIfInBounds 21 (.string y.1)).setIfInBounds 22 (.int .i64 y.2) := by
  simp [encK]
set_option maxHeartbeats 6400000 in
theorem told_any (o : Option Nat) (h : Nat) (L : List Kv) (k : ByteArray) (most : Int) (hm0 : most ≠ 0) (w : World) (ht : TreeO w o h L) :
    Calls Try.prog 18 #[ptrV o, .string k, .int .i64 most] w (TldP w (cutL most (fromL L k))) := by
  obtain ⟨w1, hw1⟩ : ∃ w1, w1 = w.alloc (.cells #[.int .i64 most] /-t-/3) := ⟨_, rfl⟩
  obtain ⟨Bm, hBm⟩ : ∃ Bm, Bm = w.heap.size := ⟨_, rfl⟩
  obtain ⟨w2, hw2⟩ : ∃ w2, w2 = w1.alloc (.cells #[.slice none 0 0] 29) := ⟨_, rfl⟩
  obtain ⟨E, hE⟩ : ∃ E, E = Bm + 1 := ⟨_, rfl⟩
  have hsz : w1.heap.size = Bm + 1 := by rw [hw1, hBm]; simp
  have hc1 : Ch (fun _ => False) w w1 := by rw [hw1]; exact (Ch.refl _ w).alloc _ _
  have hc2 : Ch (fun _ => False) w1 w2 := by rw [hw2]; exact (Ch.refl _ w1).alloc _ _
  have hbE : w2.heap[E]? = some (.cells #[.slice none 0 0] 29 (0, 0)) := by rw [hw2, hE, ← hsz]; exact heap_alloc_new _ _
  have hbM1 : w1.heap[Bm]? = some (.cells #[.int .i64 most] /-t-/3 (0, 0)) := by rw [hw1, hBm]; exact heap_alloc_new _ _
  have hbM : w2.heap[Bm]? = some (.cells #[.int .i64 most] /-t-/3 (0, 0)) := (hc2.block Bm (blk_lt hbM1) (fun f => f)).trans hbM1
  have hlt : w.heap.size ≤ Bm ∧ Bm < E := ⟨by rw [hBm]; exact Nat.le_refl _, by rw [hE, ← hsz]; exact blk_lt hbM1⟩
  have hle := ht.le
  have hfl := fromL_le L k
  obtain ⟨vo, hvo⟩ : ∃ v, v = ptrV o := ⟨_, rfl⟩
  have hfr := tfrom_any o k w2
  unfold frF at hfr
  rw [← hvo] at hfr ⊢
  have HFR := Lib.hid hfr
  have HVO := Lib.hid hvo
  have HBE := Lib.hid hbE
  have HBM := Lib.hid hbM
  have HLT := Lib.hid hlt
  have HC2 := Lib.hid (hc1.trans hc2)
  have HT := Lib.hid (ht.gr (hc1.trans hc2))
  have HLE := Lib.hid (show (fromL L k).length ≤ 1000000 by omega)
  have cm1 : w2.cell? ⟨Bm, 0, none⟩ = some (.int .i64 most) := blk_cell hbM
  clear hfr hvo hbE hbM1 hbM hlt hc1 hc2 ht hle hfl
  refine (callsIn_wide (n := 9)).1 ?_
  refine callsIn_of_wp_marks Try.func18 rfl trivial ?_ rfl
  simp only [Try.ntmps18, List.size_toArray, List.length_cons, List.length_nil, Nat.reduceAdd, Nat.reduceSub, Array.replicate_succ, Array.replicate_zero, List.push_toArray, List.append_toArray, List.nil_append, List.cons_append]
  gi_upto_region 2 with fail
  rw [← hBm, ← hw1, ← hE, ← hw2]
  clear hBm hw1 hE hw2 hsz
  gi_wp2_with (first
    | (refine (callsIn_wide.2 HFR.out).mono ?_; rintro e w3 ⟨Bt, Bk, rfl, q1, q2, q3, q4, q5⟩; have HQ := Lib.hid (And.intro q1 (And.intro q2 (And.intro q3 (And.intro q4 q5)))); have hcmp := eql_hand (.func 27) #[] #[.pointer (some ⟨Bt, 0, none⟩), .pointer (some ⟨Bk, 0, none⟩)] w3; clear q1 q2 q3 q4 q5)
    | fail)
  have hh := HQ.out
  rw [HVO.out] at hh
  obtain ⟨q1, q2, q3, q4, q5⟩ := hh
  have HT3 := Lib.hid (HT.out.gr q5)
  have HC3 := Lib.hid (HC2.out.trans q5)
  have HBT := Lib.hid (And.intro q1 q2)
  have HBE3 := Lib.hid ((q5.block E (blk_lt HBE.out) (fun f => f)).trans HBE.out)
  have HBM3 := Lib.hid ((q5.block Bm (blk_lt HBM.out) (fun f => f)).trans HBM.out)
  have HLE3 := Lib.hid (Nat.le_trans HC2.out.size q5.size)
  clear q1 q2 q3 q4 q5 HQ HVO HFR hcmp cm1 HT HC2 HBE HBM
  refine wpIn_rangeFunc_ownG (ps := #[21, 22]) rfl (by omega) (gf := 27) (lb := #[.pointer (some ⟨Bt, 0, none⟩), .pointer (some ⟨Bk, 0, none⟩)]) rfl trivial (enters_of Try.func27 (by kernel_rfl) rfl)
    (encs := encK) (Kp := KpT) (S := fun ys => ys = fromL L k) (Sp := fun pre => pre <+: fromL L k) (N := (fromL L k).length) (w0 := w3)
    (fun l J Jx W hW hJ hJx hY h0 => from1_in 8 l Bt Bk h o L k J Jx W hJ hY (HT3.out.below hW) ((hW.block Bt (blk_lt HBT.out.1)).trans HBT.out.1) ((hW.block Bk (blk_lt HBT.out.2)).trans HBT.out.2) h0)
    (fun h k => h.trans k) (fun W l o o' _ ho hc _ => KpT.put ho hc) (Below.refl _ _) (fun _ => rfl)
    (fun l W => (most < 0 ∨ (l.length : Int) < most) ∧ TldI E w3 l W)
    (fun c l W => (c = .exit 0 ∧ (l.length : Int) = most) ∧ TldI E w3 l W) ?own ?ownX
    ⟨by rcases Int.lt_trichotomy most 0 with q | q | q; exact Or.inl q; exact absurd q hm0; exact Or.inr q, _, HBE3.out, FlO.start _ _ _, Ch.refl _ _⟩
    (fun y => { tmps := #[vo, .string k, .int .i64 most, undef, undef, .pointer (some ⟨Bm, 0, none⟩), .slice none 0 0, .pointer (some ⟨E, 0, none⟩), .func (.func 27) #[] #[.pointer (some ⟨Bt, 0, none⟩), .pointer (some ⟨Bk, 0, none⟩)], .string y.1, .int .i64 y.2, .int .i64 most, .bool false, undef, vo, .string k, .func (.func 27) #[] #[.pointer (some ⟨Bt, 0, none⟩), .pointer (some ⟨Bk, 0, none⟩)], .func (.func 27) #[] #[.pointer (some ⟨Bt, 0, none⟩), .pointer (some ⟨Bk, 0, none⟩)], .bool false, undef, .func (.func 27) #[] #[.pointer (some ⟨Bt, 0, none⟩), .pointer (some ⟨Bk, 0, none⟩)], .string y.1, .int .i64 y.2, undef, undef, undef, undef, undef, undef, undef, undef, undef, undef, undef], defers := [] }) ?assign ?body ?done ?stop
  case own =>
    rintro l W W' row ⟨q, hI⟩ hg hr
    exact ⟨q, hI.own hg (fun i e => (hr i e).2) (fun i e => (hr i e).1)⟩
  case ownX =>
    rintro c l W W' row ⟨q, hI⟩ hg hr
    exact ⟨q, hI.own hg (fun i e => (hr i e).2) (fun i e => (hr i e).1)⟩
  case assign =>
    intro l y W K hK
    rw [zipK]
    simp only [List.setIfInBounds_toArray, List.set_cons_zero, List.set_cons_succ]
    gi_wp2
    exact hK
  case body =>
    rintro l pre y W ⟨hmm, v, q1, q2, q3⟩ hlen
    obtain ⟨g, cap, W2, hr, ho, hk, hg⟩ := FlO.app kdKv_ok (x := y) q2 (by have := HLE.out; omega) q3.size
    have hsl := fl_slice kdKv_ok W y
    have hne : ¬ v.ownBlock = some E := fun e => by
      obtain ⟨_, c, hc⟩ := own_at q2 e
      rw [q1] at hc
      injection hc with hc
      injection hc with _ hc _
      exact absurd hc (by decide)
    have he2 := (hk.block E (blk_lt q1) hne).trans q1
    obtain ⟨M, hM⟩ : ∃ M, M = pre.length + 1 := ⟨_, rfl⟩
    rw [← hM] at hr ho
    have hvs := var_set he2 (.slice (some ⟨g, 0, none⟩) M cap)
    have k1 : Ch (fun i => i = E) W2 (W2.setCell ⟨E, 0, none⟩ (.slice (some ⟨g, 0, none⟩) M cap)) := (Ch.refl (fun i => i = E) W2).setCell (p := ⟨E, 0, none⟩) (Or.inl rfl) _
    obtain ⟨W3, hW3⟩ : ∃ W3, W3 = W2.setCell ⟨E, 0, none⟩ (.slice (some ⟨g, 0, none⟩) M cap) := ⟨_, rfl⟩
    rw [← hW3] at hvs k1
    have hg2 : ¬ (Value.slice (some ⟨g, 0, none⟩) M cap).ownBlock = some E := fun e => by
      obtain ⟨_, c, hc⟩ := own_at ho e
      rw [he2] at hc
      injection hc with hc
      injection hc with _ hc _
      exact absurd hc (by decide)
    have hkk : Ch (fun i => v.ownBlock = some i ∨ i = E) W W3 := (hk.mono fun _ _ e => Or.inl e).trans (k1.mono fun _ _ e => Or.inr e)
    have HK1 := Lib.hid (keeps_cells (B := w3.heap.size) hkk fun i e => by
      rcases e with e | e
      · obtain ⟨_, c, hc⟩ := own_at q2 e
        exact Or.inr ⟨_, _, _, hc⟩
      · exact Or.inl (by rw [e]; exact blk_lt HBE3.out))
    have HK2 : Hid (KpT W W3) := Lib.hid (KpT.of hkk fun i c t f hi hc ht => by
      rcases hi with hi | hi
      · obtain ⟨_, c', hc'⟩ := own_at q2 hi
        rw [hc] at hc'
        injection hc' with hc'
        injection hc' with _ hc' _
        rw [hc'] at ht
        exact absurd ht (by unfold TTy; decide)
      · rw [hi, q1] at hc
        injection hc with hc
        injection hc with _ hc _
        rw [← hc] at ht
        exact absurd ht (by unfold TTy; decide))
    have HI : Hid (TldI E w3 (pre ++ [y]) W3) := Lib.hid ⟨_, hvs, ho.ch k1 fun i e x => hg2 (by rw [e, x]), ch_then q3 hkk fun i e => e.elim (fun q => Or.inr (q2.lo q).1) Or.inl⟩
    have hML : (pre ++ [y]).length = M := by rw [List.length_append, hM]; rfl
    have hM7 : (M : Int) ≤ 1000001 := by have := HLE.out; omega
    have hM0 : (0 : Int) ≤ (M : Int) := Int.natCast_nonneg _
    have HMM : Hid (most < 0 ∨ (M : Int) ≤ most) := Lib.hid (hmm.imp id fun q => by omega)
    have c1 : W.cell? ⟨E, 0, none⟩ = some v := blk_cell q1
    have c2 : W2.cell? ⟨E, 0, none⟩ = some v := blk_cell he2
    have c3 : W2.frozen? ⟨E, 0, none⟩ = false := blk_frozen he2
    have c4 : W3.cell? ⟨E, 0, none⟩ = some (.slice (some ⟨g, 0, none⟩) M cap) := blk_cell hvs
    have c5 : W3.cell? ⟨Bm, 0, none⟩ = some (.int .i64 most) := blk_cell ((k1.block Bm (Nat.lt_of_lt_of_le (blk_lt HBM3.out) (Nat.le_trans q3.size hk.size)) (fun e => by have := HLT.out; omega)).trans ((hk.block Bm (Nat.lt_of_lt_of_le (blk_lt HBM3.out) q3.size) (fun e => by have := (q2.lo e).1; have := blk_lt HBM3.out; omega)).trans ((q3.block Bm (blk_lt HBM3.out) (fun e => by have := HLT.out; omega)).trans HBM3.out)))
    have HR := Lib.hid hr
    have HSL := Lib.hid hsl
    have HML := Lib.hid hML
    have HW3 := Lib.hid hW3
    clear hr ho hk hg hsl hne he2 hM hvs k1 hW3 hg2 hkk hML hmm q1 q2 q3 hlen
    gi_upto_region 10 with fail
    refine wpIn_round_lit (by kernel_rfl) (fun ⟨_, _, h⟩ => h) ?_
    go_wp2_with (first
      | ((with_reducible refine wpList_isOp (.buildSlice 29 1 #[(0, .tmp 26)]) rfl ?_); refine wpList_sliceF _ _ rfl 29 0 1 (.tmp 26) rfl (.agg #[.string y.1, .int .i64 y.2]) _ rfl (by exact HSL.out) ?_)
      | (at_builtin; refine wpList_appF 29 _ rfl (.tmp 23) (.tmp 27) rfl rfl _ _ (.slice (some ⟨g, 0, none⟩) M cap) W2 rfl rfl (by exact HR.out) ?_)
      | fail)
    rw [← HW3.out]
    by_cases hq : (M : Int) = most
    · gi_wp2
      exact ⟨HK1.out, ⟨rfl, by rw [HML.out]; exact hq⟩, HI.out⟩
    · gi_wp2
      exact ⟨HK1.out, HK2.out, ⟨HMM.out.imp id fun q => by rw [HML.out]; omega, HI.out⟩⟩
  case done =>
    rintro D ys W hD hys ⟨hmm, v, q1, q2, q3⟩ hK
    have c1 : W.cell? ⟨E, 0, none⟩ = some v := blk_cell q1
    have kD : Ch (fun i => i = D) W (W.putObj D (.deferred none)) := row_ch (grownBy_putObj' W D (.deferred none)) |>.mono fun i _ e => by injection e with e; exact e.symm
    have HFIN : Hid (TldP w (cutL most (fromL L k)) (.returned v) (W.putObj D (.deferred none))) := Lib.hid ⟨v, rfl, by
      have e : cutL most (fromL L k) = ys := by
        rw [← hys]
        unfold cutL
        rcases hmm with q | q
        · rw [if_pos q]
        · rw [if_neg (by omega), List.take_of_length_le (by omega)]
      rw [e]
      exact (q2.ch kD fun i hi e => by
        obtain ⟨_, c, hc⟩ := own_at q2 hi
        rw [e, hK] at hc
        cases hc).low HC3.out.size, (HC3.out.new (q3.mono fun i _ hi => by rw [hi]; have := HLT.out; omega)).new (kD.mono fun i _ e => by rw [e]; exact Nat.le_trans HC3.out.size hD)⟩
    clear q1 q2 q3 kD
    gi_wp2
    refine ⟨by simp, .inl ⟨_, _, rfl, run_takeDeferred hK, ?_⟩⟩
    refine ⟨v, (results_tmp rfl _ _ _).trans ?_, HFIN.out⟩
    rfl
  case stop =>
    rintro D c pre W hD hpre ⟨⟨rfl, hmm⟩, v, q1, q2, q3⟩ hK
    have c1 : W.cell? ⟨E, 0, none⟩ = some v := blk_cell q1
    have kD : Ch (fun i => i = D) W (W.putObj D (.deferred none)) := row_ch (grownBy_putObj' W D (.deferred none)) |>.mono fun i _ e => by injection e with e; exact e.symm
    have HFIN : Hid (TldP w (cutL most (fromL L k)) (.returned v) (W.putObj D (.deferred none))) := Lib.hid ⟨v, rfl, by
      have e : cutL most (fromL L k) = pre := by
        unfold cutL
        rw [if_neg (by omega), ← hmm, Int.toNat_natCast]
        exact (List.prefix_iff_eq_take.1 hpre).symm
      rw [e]
      exact (q2.ch kD fun i hi e => by
        obtain ⟨_, c, hc⟩ := own_at q2 hi
        rw [e, hK] at hc
        cases hc).low HC3.out.size, (HC3.out.new (q3.mono fun i _ hi => by rw [hi]; have := HLT.out; omega)).new (kD.mono fun i _ e => by rw [e]; exact Nat.le_trans HC3.out.size hD)⟩
    clear q1 q2 q3 kD
    gi_wp2
    refine ⟨by simp, .inl ⟨_, _, rfl, run_takeDeferred hK, ?_⟩⟩
    refine ⟨v, (results_tmp rfl _ _ _).trans ?_, HFIN.out⟩
    rfl
#print axioms told_any
theorem told_zero (o : Option Nat) (k : ByteArray) (w : World) : Calls Try.prog 18 #[ptrV o, .string k, .int .i64 0] w (TldP w []) := by
  obtain ⟨vo, hvo⟩ : ∃ v, v = ptrV o := ⟨_, rfl⟩
  rw [← hvo]
  clear hvo
  have HFIN : Hid (TldP w [] (.returned (.slice none 0 0)) ((w.alloc (.cells #[.int .i64 0] /-t-/3)).alloc (.cells #[.slice none 0 0] 29))) := Lib.hid ⟨_, rfl, FlO.start _ _ _, ((Ch.refl _ w).alloc _ _).trans ((Ch.refl _ _).alloc _ _)⟩
  go_enter Try.func18, Try.ntmps18
  go_wp2
  go_ret
  exact HFIN.out
#print axioms told_zero
theorem told_all (o : Option Nat) (h : Nat) (L : List Kv) (k : ByteArray) (most : Int) (w : World) (ht : TreeO w o h L) : Calls Try.prog 18 #[ptrV o, .string k, .int .i64 most] w (TldP w (cutL most (fromL L k))) := by
  by_cases h0 : most = 0
  · subst h0
    exact told_zero o k w
  · exact told_any o h L k most h0 w ht
end Go.Proofs.Ytkpgaejmhddkdaa
