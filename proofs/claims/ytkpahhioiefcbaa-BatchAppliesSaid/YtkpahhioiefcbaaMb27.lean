/-
  batch: the law's all: what a tree hands on, walked.
-/
import Derived.Test.YtkpahhioiefcbaaMb26
namespace Go.Proofs.Ytkpahhioiefcbaa
open Go.RowKit
set_option linter.unusedVariables false
set_option maxRecDepth 100000
set_option linter.unusedSimpArgs false
attribute [local go_sem] Oper.semAt_some wide_fn wide_depth

theorem eql_hand (f : Fn) (a c : Array Value) (w : World) : (binOp .eql 60 (.func f a c) .nilFunc).run Try.prog w = .ok (.bool false) w := by
  obtain ⟨x, y, z, hu⟩ : ∃ x y z, Try.prog.underlying 60 = some (.func x y z) := ⟨_, _, _, Try.underlying60⟩
  have hg : ∀ n, (Op.equalIn (n + 1) 60 (.func f a c) .nilFunc).run Try.prog w = .ok false w := fun n => by simp [Op.equalIn, run_underlying hu]
  have hm : (Op.equalIn Op.maxDepth 60 (.func f a c) .nilFunc).run Try.prog w = .ok false w := hg 9999
  simp [binOp, Op.equal, hm]
theorem kLt_empty (x : ByteArray) : kLt x ⟨#[]⟩ = false := by
  unfold kLt
  rw [show (⟨#[]⟩ : ByteArray).toList = [] by decide +kernel]
  cases h : x.toList with
  | nil => rfl
  | cons x l => rfl
theorem fromL_empty (L : List Kv) : fromL L ⟨#[]⟩ = L := by
  unfold fromL
  rw [List.filter_eq_self]
  intro x _
  rw [kLt_empty]
  rfl
/-- What stands between two rounds of a range that gathers what is handed on. -/
def AllI (E : Nat) (w1 : World) (l : List Kv) (W : World) : Prop := ∃ v, W.heap[E]? = some (.cells #[v] 24 (0, 0)) ∧ FlO kdCk w1 W v l ∧ Ch (fun i => i = E) w1 W
theorem AllI.own {E : Nat} {w1 : World} {l : List Kv} {W W' : World} {row : Option Nat} (q : AllI E w1 l W) (hg : W.grownBy W' row) (hr : ∀ r, row = some r → ∃ o : Obj, W.heap[r]? = some o ∧ o.isCells = false) (hb : ∀ r, row = some r → w1.heap.size ≤ r) : AllI E w1 l W' := by
  obtain ⟨v, h1, h2, h3⟩ := q
  have hnc : ∀ i c t f, W.heap[i]? = some (.cells c t f) → ¬ row = some i := fun i c t f hc e => by
    obtain ⟨o, ho, hn⟩ := hr i e
    rw [hc] at ho; cases ho; cases hn
  refine ⟨v, ((row_ch hg).block E (blk_lt h1) (hnc E _ _ _ h1)).trans h1, h2.ch (row_ch hg) fun i hi => ?_, ch_then h3 (row_ch hg) fun i e => Or.inr (hb i e)⟩
  obtain ⟨_, c, hc⟩ := own_at h2 hi
  exact hnc i _ _ _ hc
theorem TreeIs.rise {w : World} {t h : Nat} {L : List Kv} (q : TreeIs w t h L) : Rise L := by
  obtain ⟨F, root, m, hb, hT, hm, hr, _⟩ := q
  exact hr
theorem TreeIs.new (w : World) (t : Nat) (hb : w.heap[t]? = some (.cells #[.pointer none, .int .i64 0] 38 (0, 0))) : TreeIs w t 0 [] :=
  ⟨fun _ => False, none, 0, hb, ⟨rfl, rfl, rfl⟩, fun h => absurd h (Nat.lt_irrefl 0), List.Pairwise.nil, fun i h => h.elim, Nat.zero_le _⟩
theorem TreeIs.cell {w : World} {t h : Nat} {L : List Kv} (q : TreeIs w t h L) : ∃ c f, w.heap[t]? = some (.cells c 38 f) := by
  obtain ⟨F, root, m, h1, _⟩ := q
  exact ⟨_, _, h1⟩
theorem put_le1 {L : List Kv} (h : Rise L) (k v : ByteArray) : (putL13 L k v).length ≤ L.length + 1 := by
  rw [putL_len h]
  split <;> omega
theorem TreeO.le {w : World} {o : Option Nat} {h : Nat} {L : List Kv} (q : TreeO w o h L) : L.length ≤ 1000000 := by
  cases o with
  | none => rw [q.2]; exact Nat.zero_le _
  | some t =>
    obtain ⟨F, root, m, _, _, _, _, _, hl⟩ := q
    exact hl
theorem TreeO.rise {w : World} {o : Option Nat} {h : Nat} {L : List Kv} (q : TreeO w o h L) : Rise L := by
  cases o with
  | none => rw [q.2]; exact rise_nil
  | some t => exact TreeIs.rise q
theorem TreeO.below {w W : World} {o : Option Nat} {h : Nat} {L : List Kv} (q : TreeO w o h L) (k : Below w.heap.size w W) : TreeO W o h L := by
  cases o with
  | none => exact q
  | some t =>
    obtain ⟨F, root, m, h1, h2, h3, h4, h5, h6⟩ := q
    exact ⟨F, root, m, (k.block t (blk_lt h1)).trans h1, TrIs.keep (fun i hi => k.block i (h5 i hi).1) h2, h3, h4, fun i hi => ⟨Nat.lt_of_lt_of_le (h5 i hi).1 k.size, (h5 i hi).2⟩, h6⟩
theorem zipK (y : Kv) (t : Array Value) : ((#[13, 14] : Array Tmp).zip (encK y)).foldl (fun t (p, v) => t.setIfInBounds p v) t = (t.setIfInBounds 13 (.string y.1)).setIfInBounds 14 (.string y.2) := by
  simp [encK]
set_option maxHeartbeats 6400000 in
theorem all_any' (o : Option Nat) (h : Nat) (L : List Kv) (w : World) (ht : TreeO w o h L) :
    Calls Try.prog 13 #[ptrV o] w (LstP w L) := by
  obtain ⟨w2, hw2⟩ : ∃ w2, w2 = w.alloc (.cells #[.slice none 0 0] 24) := ⟨_, rfl⟩
  obtain ⟨E, hE⟩ : ∃ E, E = w.heap.size := ⟨_, rfl⟩
  have hc2 : Ch (fun _ => False) w w2 := by rw [hw2]; exact (Ch.refl _ w).alloc _ _
  have hbE : w2.heap[E]? = some (.cells #[.slice none 0 0] 24 (0, 0)) := by rw [hw2, hE]; exact heap_alloc_new _ _
  have hlt : w.heap.size ≤ E := by rw [hE]; exact Nat.le_refl _
  have hle := ht.le
  obtain ⟨vo, hvo⟩ : ∃ v, v = ptrV o := ⟨_, rfl⟩
  have hfr := tfrom_any o ⟨#[]⟩ w2
  unfold frF at hfr
  rw [← hvo] at hfr ⊢
  have HFR := Lib.hid hfr
  have HVO := Lib.hid hvo
  have HBE := Lib.hid hbE
  have HLT := Lib.hid hlt
  have HC2 := Lib.hid hc2
  have HT := Lib.hid (ht.gr hc2)
  have HLE := Lib.hid (show (fromL L ⟨#[]⟩).length ≤ 1000000 by rw [fromL_empty]; exact hle)
  clear hfr hvo hbE hlt hc2 ht hle
  refine (callsIn_wide (n := 9)).1 ?_
  refine callsIn_of_wp_marks Try.func13 rfl trivial ?_ rfl
  simp only [Try.ntmps13, List.size_toArray, List.length_cons, List.length_nil, Nat.reduceAdd, Nat.reduceSub, Array.replicate_succ, Array.replicate_zero, List.push_toArray, List.append_toArray, List.nil_append, List.cons_append]
  gi_upto_region 2 with fail
  rw [← hE, ← hw2]
  clear hE hw2
  gi_wp2_with (first
    | (refine (callsIn_wide.2 HFR.out).mono ?_; rintro e w3 ⟨Bt, Bk, rfl, q1, q2, q3, q4, q5⟩; have HQ := Lib.hid (And.intro q1 (And.intro q2 (And.intro q3 (And.intro q4 q5)))); have hcmp := eql_hand (.func 41) #[] #[.pointer (some ⟨Bt, 0, none⟩), .pointer (some ⟨Bk, 0, none⟩)] w3; clear q1 q2 q3 q4 q5)
    | fail)
  have hh := HQ.out
  rw [HVO.out] at hh
  obtain ⟨q1, q2, q3, q4, q5⟩ := hh
  have HT3 := Lib.hid (HT.out.gr q5)
  have HC3 := Lib.hid (HC2.out.trans q5)
  have HBT := Lib.hid (And.intro q1 q2)
  have HBE3 := Lib.hid ((q5.block E (blk_lt HBE.out) (fun f => f)).trans HBE.out)
  clear q1 q2 q3 q4 q5 HQ HVO HFR hcmp HT HC2 HBE
  refine wpIn_rangeFunc_ownG (ps := #[13, 14]) rfl (by omega) (gf := 41) (lb := #[.pointer (some ⟨Bt, 0, none⟩), .pointer (some ⟨Bk, 0, none⟩)]) rfl trivial (enters_of Try.func41 (by kernel_rfl) rfl)
    (encs := encK) (Kp := KpT) (S := fun ys => ys = fromL L ⟨#[]⟩) (Sp := fun pre => pre <+: fromL L ⟨#[]⟩) (N := (fromL L ⟨#[]⟩).length) (w0 := w3)
    (fun l J Jx W hW hJ hJx hY h0 => from1_in 8 l Bt Bk h o L ⟨#[]⟩ J Jx W hJ hY (HT3.out.below hW) ((hW.block Bt (blk_lt HBT.out.1)).trans HBT.out.1) ((hW.block Bk (blk_lt HBT.out.2)).trans HBT.out.2) h0)
    (fun h k => h.trans k) (fun W l o o' _ ho hc _ => KpT.put ho hc) (Below.refl _ _) (fun _ => rfl)
    (fun l W => AllI E w3 l W)
    (fun c l W => False) ?own ?ownX
    ⟨_, HBE3.out, FlO.start _ _ _, Ch.refl _ _⟩
    (fun y => { tmps := #[vo, undef, .slice none 0 0, .pointer (some ⟨E, 0, none⟩), .func (.func 41) #[] #[.pointer (some ⟨Bt, 0, none⟩), .pointer (some ⟨Bk, 0, none⟩)], .string y.1, .string y.2, vo, .func (.func 41) #[] #[.pointer (some ⟨Bt, 0, none⟩), .pointer (some ⟨Bk, 0, none⟩)], .func (.func 41) #[] #[.pointer (some ⟨Bt, 0, none⟩), .pointer (some ⟨Bk, 0, none⟩)], .bool false, undef, .func (.func 41) #[] #[.pointer (some ⟨Bt, 0, none⟩), .pointer (some ⟨Bk, 0, none⟩)], .string y.1, .string y.2, undef, undef, undef, undef, undef, undef, undef], defers := [] }) ?assign ?body ?done ?stop
  case own =>
    rintro l W W' row hI hg hr
    exact hI.own hg (fun i e => (hr i e).2) (fun i e => (hr i e).1)
  case ownX =>
    rintro c l W W' row hI hg hr
    exact hI
  case stop =>
    rintro D c pre W hD hpre hI hK
    exact hI.elim
  case assign =>
    intro l y W K hK
    rw [zipK]
    simp only [List.setIfInBounds_toArray, List.set_cons_zero, List.set_cons_succ]
    gi_wp2
    exact hK
  case body =>
    rintro l pre y W ⟨v, q1, q2, q3⟩ hlen
    obtain ⟨g, cap, W2, hr, ho, hk, hg⟩ := FlO.app kdCk_ok (x := y) q2 (by have := HLE.out; omega) q3.size
    have hsl := fl_slice kdCk_ok W y
    have hne : ¬ v.ownBlock = some E := fun e => by
      obtain ⟨_, c, hc⟩ := own_at q2 e
      rw [q1] at hc
      injection hc with hc
      injection hc with _ hc _
      exact absurd hc (by decide)
    have he2 := (hk.block E (blk_lt q1) hne).trans q1
    obtain ⟨M, hM⟩ : ∃ M, M = pre.length + 1 := ⟨_, rfl⟩
    rw [← hM] at hr ho
    have hvs := var_set he2 (.slice (some ⟨g, 0, none⟩) M cap)
    have k1 : Ch (fun i => i = E) W2 (W2.setCell ⟨E, 0, none⟩ (.slice (some ⟨g, 0, none⟩) M cap)) := (Ch.refl (fun i => i = E) W2).setCell (p := ⟨E, 0, none⟩) (Or.inl rfl) _
    obtain ⟨W3, hW3⟩ : ∃ W3, W3 = W2.setCell ⟨E, 0, none⟩ (.slice (some ⟨g, 0, none⟩) M cap) := ⟨_, rfl⟩
    rw [← hW3] at hvs k1
    have hg2 : ¬ (Value.slice (some ⟨g, 0, none⟩) M cap).ownBlock = some E := fun e => by
      obtain ⟨_, c, hc⟩ := own_at ho e
      rw [he2] at hc
      injection hc with hc
      injection hc with _ hc _
      exact absurd hc (by decide)
    have hkk : Ch (fun i => v.ownBlock = some i ∨ i = E) W W3 := (hk.mono fun _ _ e => Or.inl e).trans (k1.mono fun _ _ e => Or.inr e)
    have HK1 := Lib.hid (keeps_cells (B := w3.heap.size) hkk fun i e => by
      rcases e with e | e
      · obtain ⟨_, c, hc⟩ := own_at q2 e
        exact Or.inr ⟨_, _, _, hc⟩
      · exact Or.inl (by rw [e]; exact blk_lt HBE3.out))
    have HK2 : Hid (KpT W W3) := Lib.hid (KpT.of hkk fun i c t f hi hc ht => by
      rcases hi with hi | hi
      · obtain ⟨_, c', hc'⟩ := own_at q2 hi
        rw [hc] at hc'
        injection hc' with hc'
        injection hc' with _ hc' _
        rw [hc'] at ht
        exact absurd ht (by unfold TTy; decide)
      · rw [hi, q1] at hc
        injection hc with hc
        injection hc with _ hc _
        rw [← hc] at ht
        exact absurd ht (by unfold TTy; decide))
    have HI : Hid (AllI E w3 (pre ++ [y]) W3) := Lib.hid ⟨_, hvs, ho.ch k1 fun i e x => hg2 (by rw [e, x]), ch_then q3 hkk fun i e => e.elim (fun q => Or.inr (q2.lo q).1) Or.inl⟩
    have c1 : W.cell? ⟨E, 0, none⟩ = some v := blk_cell q1
    have c2 : W2.cell? ⟨E, 0, none⟩ = some v := blk_cell he2
    have c3 : W2.frozen? ⟨E, 0, none⟩ = false := blk_frozen he2
    have HR := Lib.hid hr
    have HSL := Lib.hid hsl
    have HW3 := Lib.hid hW3
    clear hr ho hk hg hsl hne he2 hM hvs k1 hW3 hg2 hkk q1 q2 q3 hlen
    gi_upto_region 8 with fail
    refine wpIn_round_lit (by kernel_rfl) (fun ⟨_, _, h⟩ => h) ?_
    go_wp2_with (first
      | ((with_reducible refine wpList_isOp (.buildSlice 24 1 #[(0, .tmp 18)]) rfl ?_); refine wpList_sliceF _ _ rfl 24 0 1 (.tmp 18) rfl (.agg #[.string y.1, .string y.2, .bool false]) _ rfl (by exact HSL.out) ?_)
      | (at_builtin; refine wpList_appF 24 _ rfl (.tmp 15) (.tmp 19) rfl rfl _ _ (.slice (some ⟨g, 0, none⟩) M cap) W2 rfl rfl (by exact HR.out) ?_)
      | fail)
    rw [← HW3.out]
    gi_wp2
    exact ⟨HK1.out, HK2.out, HI.out⟩
  case done =>
    rintro D ys W hD hys ⟨v, q1, q2, q3⟩ hK
    rw [fromL_empty] at hys
    subst hys
    have c1 : W.cell? ⟨E, 0, none⟩ = some v := blk_cell q1
    have kD : Ch (fun i => i = D) W (W.putObj D (.deferred none)) := row_ch (grownBy_putObj' W D (.deferred none)) |>.mono fun i _ e => by injection e with e; exact e.symm
    have HFIN : Hid (LstP w ys (.returned v) (W.putObj D (.deferred none))) := Lib.hid ⟨v, rfl, (q2.ch kD fun i hi e => by
        obtain ⟨_, c, hc⟩ := own_at q2 hi
        rw [e, hK] at hc
        cases hc).low HC3.out.size, (HC3.out.new (q3.mono fun i _ hi => by rw [hi]; exact HLT.out)).new (kD.mono fun i _ e => by rw [e]; exact Nat.le_trans HC3.out.size hD)⟩
    clear q1 q2 q3 kD
    gi_wp2
    refine ⟨by simp, .inl ⟨_, _, rfl, run_takeDeferred hK, ?_⟩⟩
    refine ⟨v, (results_tmp rfl _ _ _).trans ?_, HFIN.out⟩
    rfl
#print axioms all_any'
end Go.Proofs.Ytkpahhioiefcbaa
