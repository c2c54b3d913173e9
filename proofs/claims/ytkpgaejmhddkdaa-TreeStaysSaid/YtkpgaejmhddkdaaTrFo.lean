/-
  TreeStays, walked.
-/
import Derived.Test.YtkpgaejmhddkdaaTrFn
namespace Go.Proofs.Ytkpgaejmhddkdaa
open Go.RowKit
set_option linter.unusedVariables false
set_option maxRecDepth 100000
set_option linter.unusedSimpArgs false
attribute [local go_sem] Oper.semAt_some wide_fn wide_depth

/-- A panic, and whatever else leaves, looks at nothing. -/
theorem wp_only {P : Program} {s : Code} {Q : Exit → Act → World → Prop} {a : Act} {w : World} (h : ∀ K : Act → World → Prop, (∀ a w, Q .normal a w → K a w) → s.wp P (Exit.then K (fun _ _ _ => False)) a w) : s.wp P Q a w := by
  refine wp_mono (h (fun a w => Q .normal a w) (fun _ _ q => q)) ?_
  intro e a' w' hq
  cases e with
  | normal => exact hq
  | exit id => exact hq.elim
  | goto l => exact hq.elim
  | ret => exact hq.elim
  | panic ch => exact hq.elim
  | outgrown => exact hq.elim
theorem TreeIs.kp {w w' : World} {t h : Nat} {L : List Kv} (q : TreeIs w t h L) (k : KpT w w') (hb : w'.heap[t]? = w.heap[t]?) : TreeIs w' t h L := by
  obtain ⟨F, root, m, h1, h2, h3, h4, _, h6⟩ := q
  refine ⟨Typ w', root, m, hb.trans h1, TrT.kp k h2.typ, h3, h4, fun i hi => ?_, h6⟩
  obtain ⟨c, T, f, hT, hc⟩ := hi
  refine ⟨blk_lt hc, fun e => ?_⟩
  rw [e, hb, h1] at hc
  injection hc with hc
  injection hc with _ hc _
  rw [← hc] at hT
  exact absurd hT (by unfold TTy; decide)
/-- Between two rounds: what was handed on, and a tree that becomes what it may. -/
def StI (E t N : Nat) (w1 : World) (l : List Kv) (W : World) : Prop := ∃ v h L, W.heap[E]? = some (.cells #[v] 29 (0, 0)) ∧ FlO kdKv w1 W v l ∧ TreeIs W t h L ∧ L.length ≤ N + l.length ∧ Ch (fun i => i = E ∨ i = t) w1 W
theorem StI.own {E t N : Nat} {w1 : World} {l : List Kv} {W W' : World} {row : Option Nat} (q : StI E t N w1 l W) (hg : W.grownBy W' row) (hr : ∀ r, row = some r → ∃ o : Obj, W.heap[r]? = some o ∧ o.isCells = false) (hb : ∀ r, row = some r → w1.heap.size ≤ r) : StI E t N w1 l W' := by
  obtain ⟨v, h, L, h1, h2, h3, h4, h5⟩ := q
  have hnc : ∀ i c t f, W.heap[i]? = some (.cells c t f) → ¬ row = some i := fun i c t f hc e => by
    obtain ⟨o, ho, hn⟩ := hr i e
    rw [hc] at ho; cases ho; cases hn
  obtain ⟨ct, ft, hct⟩ := h3.cell
  refine ⟨v, h, L, ((row_ch hg).block E (blk_lt h1) (hnc E _ _ _ h1)).trans h1, h2.ch (row_ch hg) fun i hi => ?_, h3.kp (KpT.of (row_ch hg) fun i c T f hi hc _ => hnc i c T f hc hi) ((row_ch hg).block t (blk_lt hct) (hnc t _ _ _ hct)), h4, ch_then h5 (row_ch hg) fun i e => Or.inr (hb i e)⟩
  obtain ⟨_, c, hc⟩ := own_at h2 hi
  exact hnc i _ _ _ hc
theorem zipS (y : Kv) (t : Array Value) : ((#[50, 51] : Array Tmp).zip (encK y)).foldl (fun t (p, v) => t.setIfInBounds p v) t = (t.setIfInBounds 50 (.string y.1)).setIfInBounds 51 (.int .i64 y.2) := by
  simp [encK]
set_option maxHeartbeats 6400000 in
theorem treeStays_of (A : Option Addr) (C : Nat) (ls : List OpV) (k0 : ByteArray) (w : World) (h : FlW kdOp w A C ls) : Calls Try.prog 5 #[.slice A ls.length C, .string k0] w (Told w) := by
  obtain ⟨wk, hwk⟩ : ∃ wk, wk = w.alloc (.cells #[.string k0] 9) := ⟨_, rfl⟩
  obtain ⟨Bk, hBk⟩ : ∃ Bk, Bk = w.heap.size := ⟨_, rfl⟩
  have hck : Ch (fun _ => False) w wk := by rw [hwk]; exact (Ch.refl _ w).alloc _ _
  have hbk : wk.heap[Bk]? = some (.cells #[.string k0] 9 (0, 0)) := by rw [hwk, hBk]; exact heap_alloc_new _ _
  have HWW := Lib.hid h
  obtain ⟨n, hn⟩ : ∃ n, n = ls.length := ⟨_, rfl⟩
  have hle := h.le
  have HUP := Lib.hid (awake_any wk)
  rw [← hn] at hle ⊢
  have n0 : (0 : Int) ≤ (n : Int) := Int.natCast_nonneg _
  have n1 : (n : Int) ≤ 9223372036854775807 := by omega
  have HN := Lib.hid hn
  obtain ⟨f, hf⟩ : ∃ f, f = fewB ls 100 := ⟨_, rfl⟩
  have HF := Lib.hid hf
  have HCK := Lib.hid hck
  have HBK := Lib.hid hbk
  have HLK := Lib.hid (show w.heap.size ≤ Bk by rw [hBk]; exact Nat.le_refl _)
  clear h hn hle hf hck
  refine (callsIn_wide (n := 9)).1 ?_
  refine callsIn_of_wp_marks Try.func5 rfl trivial ?_ rfl
  simp only [Try.ntmps5, List.size_toArray, List.length_cons, List.length_nil, Nat.reduceAdd, Nat.reduceSub, Array.replicate_succ, Array.replicate_zero, List.push_toArray, List.append_toArray, List.nil_append, List.cons_append]
  gi_upto_region 1 with fail
  rw [← hBk, ← hwk]
  clear hBk hwk hbk
  gi_wp2_with fail
  refine (callsIn_wide.2 HUP.out).mono ?_
  rintro e w1 ⟨rfl, hc1⟩
  have hfw := few_any A C ls 100 (by omega) w1 ((HWW.out.gr HCK.out).gr hc1)
  rw [← HN.out, ← HF.out] at hfw
  have HFW := Lib.hid hfw
  have HC1 := Lib.hid hc1
  clear hc1 hfw HUP
  gi_wp2_with fail
  refine (callsIn_wide.2 HFW.out).mono ?_
  rintro e w2 ⟨rfl, hc2⟩
  have HC2 := Lib.hid (HC1.out.trans hc2)
  have HBK2 := Lib.hid (((HC1.out.trans hc2).block Bk (blk_lt HBK.out) (fun f => f)).trans HBK.out)
  have c0 : w2.cell? ⟨Bk, 0, none⟩ = some (.string k0) := by rw [blk_cell HBK2.out]; rfl
  clear hc2 HFW HC1
  by_cases hok : f = true ∧ k0.size ≤ 100
  case neg =>
    have hno : f = false ∨ (f = true ∧ ¬ k0.size ≤ 100) := by
      cases f
      · exact Or.inl rfl
      · exact Or.inr ⟨rfl, fun q => hok ⟨rfl, q⟩⟩
    have HFIN : Hid (Told w (.returned (.bool true)) w2) := Lib.hid ⟨rfl, HCK.out.trans HC2.out⟩
    clear hok
    rcases hno with rfl | ⟨rfl, q⟩
    · gi_wp2_with fail
      refine ⟨.bool true, (results_tmp rfl _ _ _).trans ?_, HFIN.out⟩
      rfl
    · have q3 : (100 : Int) < (k0.size : Int) := by omega
      clear q
      gi_wp2_with fail
      refine ⟨.bool true, (results_tmp rfl _ _ _).trans ?_, HFIN.out⟩
      rfl
  case pos =>
    obtain ⟨rfl, hk⟩ := hok
    have hk3 : ¬ (100 : Int) < (k0.size : Int) := by omega
    have hn4 : n ≤ 100 := by rw [HN.out]; exact fewB_len HF.out.symm
    have n4 : (n : Int) ≤ 100 := by omega
    have HVW := Lib.hid (HWW.out.fl (by rw [← HN.out]; omega))
    have HV := Lib.hid (HVW.out.gr HCK.out)
    obtain ⟨w3, hw3⟩ : ∃ w3, w3 = w2.alloc (.cells #[.pointer none, .int .i64 0] 28) := ⟨_, rfl⟩
    obtain ⟨t, ht⟩ : ∃ t, t = w2.heap.size := ⟨_, rfl⟩
    obtain ⟨w4, hw4⟩ : ∃ w4, w4 = w3.alloc (.cells #[.pointer (some ⟨t, 0, none⟩)] 25) := ⟨_, rfl⟩
    obtain ⟨Bt, hBt⟩ : ∃ Bt, Bt = t + 1 := ⟨_, rfl⟩
    have hsz : w3.heap.size = t + 1 := by rw [hw3, ht]; simp
    have hc3 : Ch (fun _ => False) w2 w3 := by rw [hw3]; exact (Ch.refl _ w2).alloc _ _
    have hc4 : Ch (fun _ => False) w3 w4 := by rw [hw4]; exact (Ch.refl _ w3).alloc _ _
    have hbt : w3.heap[t]? = some (.cells #[.pointer none, .int .i64 0] 28 (0, 0)) := by rw [hw3, ht]; exact heap_alloc_new _ _
    have hbb : w4.heap[Bt]? = some (.cells #[.pointer (some ⟨t, 0, none⟩)] 25 (0, 0)) := by rw [hw4, hBt, ← hsz]; exact heap_alloc_new _ _
    have HT0 := Lib.hid ((TreeIs.new w3 t hbt).gr hc4)
    have HBB := Lib.hid hbb
    have HC4 := Lib.hid (HCK.out.trans (HC2.out.trans (hc3.trans hc4)))
    have HV4 := Lib.hid (HV.out.gr (HC2.out.trans (hc3.trans hc4)))
    have HBK4 := Lib.hid (((hc3.trans hc4).block Bk (blk_lt HBK2.out) (fun f => f)).trans HBK2.out)
    have HLE := Lib.hid (show w.heap.size ≤ t ∧ t < Bt ∧ Bk < t from ⟨by rw [ht]; exact Nat.le_trans HCK.out.size HC2.out.size, by omega, by rw [ht]; exact blk_lt HBK2.out⟩)
    clear hk hn4 hc3 hc4 hbt hbb
    gi_upto_region 6 with fail
    rw [← ht, ← hw3, ← hBt, ← hw4]
    clear ht hw3 hBt hw4 hsz c0
    gi_wp2_with fail
    gi_loopw [8] (fun i wr => ∃ j : Nat, j ≤ n ∧ i = .int .i64 (j : Int) ∧ Hid (TrSt t j w4 wr)) (fun i _ => n - (intOf i).toNat)
    case atStart => exact ⟨0, Nat.zero_le _, rfl, Lib.hid ⟨0, [], HT0.out, Nat.le_refl 0, Ch.refl _ _⟩⟩
    case round =>
      obtain ⟨j, hj, rfl, HS⟩ := hrel
      have j0 : (0 : Int) ≤ (j : Int) := Int.natCast_nonneg _
      by_cases hlt : j < n
      · have j1 : (j : Int) < (n : Int) := by omega
        obtain ⟨h, L, hT, hLj, hC⟩ := HS.out
        obtain ⟨b, o, rfl⟩ := HV4.out.some' (by rw [← HN.out]; omega)
        have hv := HV4.out.ch hC fun b' o' e x => by
          injection e with e
          injection e with e _ _
          have h1 := HVW.out.low' kdOp_ok (by rw [← HN.out]; omega)
          have h2 := HLE.out
          omega
        have hx : ls[j]? = some (ls[j]'(by rw [← HN.out]; exact hlt)) := List.getElem?_eq_getElem _
        obtain ⟨⟨d, k, v⟩, hxe⟩ : ∃ x, ls[j]? = some x := ⟨_, hx⟩
        have c0 : wr.cell? ⟨b, o + j * 3, none⟩ = some (.bool d) := hv.cells hxe 0 _ rfl
        have c1 : wr.cell? ⟨b, o + j * 3 + 1, none⟩ = some (.string k) := hv.cells hxe 1 _ rfl
        have c2 : wr.cell? ⟨b, o + j * 3 + 2, none⟩ = some (.int .i64 v) := hv.cells hxe 2 _ rfl
        have c3 : wr.cell? ⟨Bt, 0, none⟩ = some (.pointer (some ⟨t, 0, none⟩)) := blk_cell ((hC.block Bt (blk_lt HBB.out) (fun e => by have := HLE.out; omega)).trans HBB.out)
        have kd : Ch (fun _ => False) wr wr.drew := (Ch.refl _ wr).drew
        have HD := Lib.hid (does_any (hT.gr kd) (d, k, v) (by omega))
        have HR := Lib.hid (And.intro hT.rise (And.intro hLj (hC.trans (kd.mono fun _ _ f => f.elim))))
        clear hv hx hxe hT hLj hC HS kd
        gi_upto_region 9 with fail
        refine wpIn_wide.2 (wp_only fun KR hKR => ?_)
        go_region_with (first
          | (refine HD.out.mono ?_; rintro e w5 ⟨h2, rfl, hT2, hc5⟩; have HS2 : Hid (TrSt t (j + 1) w4 w5) := Lib.hid ⟨h2, _, hT2, by have := does_len HR.out.1 (d, k, v); have := HR.out.2.1; omega, HR.out.2.2.trans hc5⟩; clear hT2 hc5)
          | fail)
        all_goals
          refine hKR _ _ ?_
          gi_wp2_with fail
          go_roundw
          case rel => exact ⟨j + 1, by omega, by go_num, HS2⟩
          case measure => simp [intOf]; omega
      · have j1 : ¬ (j : Int) < (n : Int) := by omega
        obtain ⟨h, L, hT, hLj, hC⟩ := HS.out
        have hL1 : L.length ≤ 100 := by omega
        have c3 : wr.cell? ⟨Bt, 0, none⟩ = some (.pointer (some ⟨t, 0, none⟩)) := blk_cell ((hC.block Bt (blk_lt HBB.out) (fun e => by have := HLE.out; omega)).trans HBB.out)
        have hbt : wr.heap[Bt]? = some (.cells #[.pointer (some ⟨t, 0, none⟩)] 25 (0, 0)) := (hC.block Bt (blk_lt HBB.out) (fun e => by have := HLE.out; omega)).trans HBB.out
        have hbk : wr.heap[Bk]? = some (.cells #[.string k0] 9 (0, 0)) := (hC.block Bk (blk_lt HBK4.out) (fun e => by have := HLE.out; omega)).trans HBK4.out
        have htd : Calls Try.prog 18 #[.pointer (some ⟨t, 0, none⟩), .string ⟨#[]⟩, .int .i64 (-1)] wr (TldP wr L) := by
          have q := told_all (some t) h L ⟨#[]⟩ (-1) wr hT
          rw [fromL_empty] at q
          exact q
        have HTD := Lib.hid htd
        have HTr := Lib.hid hT
        have HBTr := Lib.hid hbt
        have HBKr := Lib.hid hbk
        have HLr := Lib.hid hL1
        have HCr := Lib.hid (show Ch (fun _ => False) w wr from HC4.out.new (hC.mono fun i _ e => by rw [e]; exact HLE.out.1))
        clear hT hbt hbk hL1 htd hC hLj HS
        gi_wp2_with fail
        refine (callsIn_wide.2 HTD.out).mono ?_
        rintro e w5 ⟨v5, rfl, ho5, hc5⟩
        obtain ⟨w6, hw6⟩ : ∃ w6, w6 = w5.alloc (.cells #[.slice none 0 0] 29) := ⟨_, rfl⟩
        obtain ⟨E, hE⟩ : ∃ E, E = w5.heap.size := ⟨_, rfl⟩
        have hc6 : Ch (fun _ => False) w5 w6 := by rw [hw6]; exact (Ch.refl _ w5).alloc _ _
        have hbE : w6.heap[E]? = some (.cells #[.slice none 0 0] 29 (0, 0)) := by rw [hw6, hE]; exact heap_alloc_new _ _
        have hc56 := hc5.trans hc6
        have hfr := tfrom_any (some t) ⟨#[]⟩ w6
        unfold frF at hfr
        have HFR := Lib.hid hfr
        have HO5 := Lib.hid (ho5.gr hc6)
        have HBE := Lib.hid hbE
        have HT6 := Lib.hid (HTr.out.gr hc56)
        have hbt6 := (hc56.block Bt (blk_lt HBTr.out) (fun f => f)).trans HBTr.out
        have HBT6 := Lib.hid hbt6
        have HBK6 := Lib.hid ((hc56.block Bk (blk_lt HBKr.out) (fun f => f)).trans HBKr.out)
        have HLT := Lib.hid (show Bt < E ∧ wr.heap.size ≤ E from ⟨by rw [hE]; exact Nat.lt_of_lt_of_le (blk_lt HBTr.out) hc5.size, by rw [hE]; exact hc5.size⟩)
        have c4 : w6.cell? ⟨Bt, 0, none⟩ = some (.pointer (some ⟨t, 0, none⟩)) := blk_cell hbt6
        have c5 : w5.cell? ⟨Bt, 0, none⟩ = some (.pointer (some ⟨t, 0, none⟩)) := hc5.cell c3 (fun f => f)
        have HC6 := Lib.hid (HCr.out.trans hc56)
        clear hfr ho5 hc5 hc6 hbE hc56 hbt6 HTD HTr HBTr HBKr HCr c3
        gi_upto_region 12 with fail
        rw [← hE, ← hw6]
        clear hE hw6
        gi_wp2_with (first
          | (refine (callsIn_wide.2 HFR.out).mono ?_; rintro e w7 ⟨Bq, Bs, rfl, q1, q2, q3, q4, q5⟩; have HQ := Lib.hid (And.intro q1 (And.intro q2 (And.intro q3 (And.intro q4 q5)))); have hcmp := eql_hand (.func 27) #[] #[.pointer (some ⟨Bq, 0, none⟩), .pointer (some ⟨Bs, 0, none⟩)] w7; clear q1 q2 q3 q4 q5)
          | fail)
        obtain ⟨q1, q2, q3, q4, q5⟩ := HQ.out
        have HT7 := Lib.hid (HT6.out.gr q5)
        have HBQ := Lib.hid (And.intro q1 q2)
        have HBE7 := Lib.hid ((q5.block E (blk_lt HBE.out) (fun f => f)).trans HBE.out)
        have HBT7 := Lib.hid ((q5.block Bt (blk_lt HBT6.out) (fun f => f)).trans HBT6.out)
        have HBK7 := Lib.hid ((q5.block Bk (blk_lt HBK6.out) (fun f => f)).trans HBK6.out)
        have HO7 := Lib.hid (HO5.out.gr q5)
        have HC7 := Lib.hid (HC6.out.trans q5)
        have hfl : (fromL L ⟨#[]⟩).length = L.length := by rw [fromL_empty]
        have HFL := Lib.hid hfl
        clear q1 q2 q3 q4 q5 HQ hcmp HFR HT6 HBE HBT6 HBK6 HO5 HC6 c4 c5 hfl
        have HNE := Lib.hid (show t < Bt ∧ Bt < E ∧ Bk < t ∧ w.heap.size ≤ t ∧ E < w7.heap.size from ⟨HLE.out.2.1, HLT.out.1, HLE.out.2.2, HLE.out.1, blk_lt HBE7.out⟩)
        refine wpIn_rangeFunc_ownG (ps := #[50, 51]) rfl (by omega) (gf := 27) (lb := #[.pointer (some ⟨Bq, 0, none⟩), .pointer (some ⟨Bs, 0, none⟩)]) rfl trivial (enters_of Try.func27 (by kernel_rfl) rfl)
          (encs := encK) (Kp := KpT) (S := fun ys => ys = fromL L ⟨#[]⟩) (Sp := fun pre => pre <+: fromL L ⟨#[]⟩) (N := (fromL L ⟨#[]⟩).length) (w0 := w7)
          (fun l J Jx W hW hJ hJx hY h0 => from1_in 8 l Bq Bs h (some t) L ⟨#[]⟩ J Jx W hJ hY (TreeO.below (o := some t) HT7.out hW) ((hW.block Bq (blk_lt HBQ.out.1)).trans HBQ.out.1) ((hW.block Bs (blk_lt HBQ.out.2)).trans HBQ.out.2) h0)
          (fun h k => h.trans k) (fun W l o o' _ ho hc _ => KpT.put ho hc) (Below.refl _ _) (fun _ => rfl)
          (fun l W => StI E t 100 w7 l W)
          (fun c l W => False) ?own ?ownX
          ⟨_, h, L, HBE7.out, FlO.start _ _ _, HT7.out, by have := HLr.out; omega, Ch.refl _ _⟩
          (fun y => { tmps := #[.slice A n C, .string k0, undef, .pointer (some ⟨Bk, 0, none⟩), .bool false, .bool true, .bool true, .pointer (some ⟨Bt, 0, none⟩), .int .i64 (j : Int), v5, .pointer (some ⟨E, 0, none⟩), .func (.func 27) #[] #[.pointer (some ⟨Bq, 0, none⟩), .pointer (some ⟨Bs, 0, none⟩)], .string y.1, .int .i64 y.2, .bool true, .slice A n C, .bool true, .bool true, .bool false, .bool false, .bool true, .bool false, .bool false, .bool false, .string k0, .int .i64 (k0.size : Int), .bool (decide ((100 : Int) < (k0.size : Int))), .bool (decide ((100 : Int) < (k0.size : Int))), undef, .agg #[.pointer none, .int .i64 0], .pointer (some ⟨t, 0, none⟩), .int .i64 (j : Int), .slice A n C, .int .i64 (n : Int), .bool false, u35, u36, u37, u38, u39, u40, u41, u42, .pointer (some ⟨t, 0, none⟩), v5, .pointer (some ⟨t, 0, none⟩), .func (.func 27) #[] #[.pointer (some ⟨Bq, 0, none⟩), .pointer (some ⟨Bs, 0, none⟩)], .func (.func 27) #[] #[.pointer (some ⟨Bq, 0, none⟩), .pointer (some ⟨Bs, 0, none⟩)], .bool false, .func (.func 27) #[] #[.pointer (some ⟨Bq, 0, none⟩), .pointer (some ⟨Bs, 0, none⟩)], .string y.1, .int .i64 y.2, undef, undef, undef, undef, undef, undef, undef, undef, undef, undef, undef, undef, undef, undef, undef], defers := [] }) ?assign ?body ?done ?stop
        case own =>
          rintro l W W' row hI hg hr
          exact hI.own hg (fun i e => (hr i e).2) (fun i e => (hr i e).1)
        case ownX =>
          rintro c l W W' row hI hg hr
          exact hI
        case stop =>
          rintro D c pre W hD hpre hI hK
          exact hI.elim
        case assign =>
          intro l y W K hK
          rw [zipS]
          simp only [List.setIfInBounds_toArray, List.set_cons_zero, List.set_cons_succ]
          gi_wp2
          exact hK
        case body =>
          rintro l pre y W ⟨v, h8, L8, q1, q2, qT, qL, q3⟩ hlen
          obtain ⟨g, cap, W2, hr, ho, hk, hg⟩ := FlO.app kdKv_ok (x := y) q2 (by have := HFL.out; have := HLr.out; omega) q3.size
          have hsl := fl_slice kdKv_ok W y
          obtain ⟨ct, ft, hct⟩ := qT.cell
          have hnt : ¬ v.ownBlock = some t := fun e => by
            have := (q2.lo e).1
            have := HNE.out
            omega
          have hne : ¬ v.ownBlock = some E := fun e => by
            obtain ⟨_, c, hc⟩ := own_at q2 e
            rw [q1] at hc
            injection hc with hc
            injection hc with _ hc _
            exact absurd hc (by decide)
          have he2 := (hk.block E (blk_lt q1) hne).trans q1
          obtain ⟨M, hM⟩ : ∃ M, M = pre.length + 1 := ⟨_, rfl⟩
          rw [← hM] at hr ho
          have hvs := var_set he2 (.slice (some ⟨g, 0, none⟩) M cap)
          have k1 : Ch (fun i => i = E) W2 (W2.setCell ⟨E, 0, none⟩ (.slice (some ⟨g, 0, none⟩) M cap)) := (Ch.refl (fun i => i = E) W2).setCell (p := ⟨E, 0, none⟩) (Or.inl rfl) _
          obtain ⟨W3, hW3⟩ : ∃ W3, W3 = W2.setCell ⟨E, 0, none⟩ (.slice (some ⟨g, 0, none⟩) M cap) := ⟨_, rfl⟩
          rw [← hW3] at hvs k1
          have hglo := (ho.lo (show (Value.slice (some ⟨g, 0, none⟩) M cap).ownBlock = some g from rfl)).1
          have hg2 : ¬ (Value.slice (some ⟨g, 0, none⟩) M cap).ownBlock = some E := fun e => by
            have := (ho.lo e).1
            have := HNE.out
            omega
          have hkk : Ch (fun i => v.ownBlock = some i ∨ i = E) W W3 := (hk.mono fun _ _ e => Or.inl e).trans (k1.mono fun _ _ e => Or.inr e)
          have hown : ∀ i, v.ownBlock = some i → ∃ c, W.heap[i]? = some (.cells c kdKv.T (0, 0)) := fun i e => by
            obtain ⟨_, c, hc⟩ := own_at q2 e
            exact ⟨c, hc⟩
          have HK2 : Hid (KpT W W3) := Lib.hid (KpT.of hkk fun i c t f hi hc ht => by
            rcases hi with hi | hi
            · obtain ⟨c', hc'⟩ := hown i hi
              rw [hc] at hc'
              injection hc' with hc'
              injection hc' with _ hc' _
              rw [hc'] at ht
              exact absurd ht (by unfold TTy; decide)
            · rw [hi, q1] at hc
              injection hc with hc
              injection hc with _ hc _
              rw [← hc] at ht
              exact absurd ht (by unfold TTy; decide))
          have t3 := qT.kp HK2.out (hkk.block t (blk_lt hct) fun e => e.elim hnt fun e => by have := HNE.out; omega)
          have HDL := Lib.hid (tdel_any t3 y.1)
          have HRI := Lib.hid t3.rise
          have o3 := ho.ch k1 fun i e x => hg2 (by rw [e, x])
          have hML : (pre ++ [y]).length = M := by rw [List.length_append, hM]; rfl
          have b3 : W3.heap[Bt]? = some (.cells #[.pointer (some ⟨t, 0, none⟩)] 25 (0, 0)) := ((hkk.block Bt (Nat.lt_of_lt_of_le (blk_lt HBT7.out) q3.size) fun e => e.elim (fun e => by have := (q2.lo e).1; have := HNE.out; omega) fun e => by have := HNE.out; omega).trans (q3.block Bt (blk_lt HBT7.out) fun e => by have := HNE.out; omega)).trans HBT7.out
          have b4 : W3.heap[Bk]? = some (.cells #[.string k0] 9 (0, 0)) := ((hkk.block Bk (Nat.lt_of_lt_of_le (blk_lt HBK7.out) q3.size) fun e => e.elim (fun e => by have := (q2.lo e).1; have := HNE.out; omega) fun e => by have := HNE.out; omega).trans (q3.block Bk (blk_lt HBK7.out) fun e => by have := HNE.out; omega)).trans HBK7.out
          have HB3 := Lib.hid (And.intro b3 b4)
          have HVS := Lib.hid hvs
          have HO3 := Lib.hid o3
          have HGL := Lib.hid hglo
          have HALL := Lib.hid (And.intro q1 (And.intro q2 (And.intro qL (And.intro q3 (And.intro hkk (And.intro hown hct))))))
          have c1 : W.cell? ⟨E, 0, none⟩ = some v := blk_cell q1
          have c2 : W2.cell? ⟨E, 0, none⟩ = some v := blk_cell he2
          have c3 : W2.frozen? ⟨E, 0, none⟩ = false := blk_frozen he2
          have c6 : W3.cell? ⟨Bt, 0, none⟩ = some (.pointer (some ⟨t, 0, none⟩)) := blk_cell b3
          have HR := Lib.hid hr
          have HSL := Lib.hid hsl
          have HML := Lib.hid hML
          have HW3 := Lib.hid hW3
          have HLEN := Lib.hid hlen
          clear hr ho hk hg hsl hne he2 hM hvs k1 hW3 hg2 hkk hML q1 q2 q3 hlen qT qL hct hnt hglo hown t3 o3 b3 b4
          gi_upto_region 18 with fail
          refine wpIn_round_lit (by kernel_rfl) (fun ⟨_, _, h⟩ => h) ?_
          go_wp2_with (first
            | ((with_reducible refine wpList_isOp (.buildSlice 29 1 #[(0, .tmp 55)]) rfl ?_); refine wpList_sliceF _ _ rfl 29 0 1 (.tmp 55) rfl (.agg #[.string y.1, .int .i64 y.2]) _ rfl (by exact HSL.out) ?_)
            | (at_builtin; refine wpList_appF 29 _ rfl (.tmp 52) (.tmp 56) rfl rfl _ _ (.slice (some ⟨g, 0, none⟩) M cap) W2 rfl rfl (by exact HR.out) ?_)
            | fail)
          rw [← HW3.out]
          gi_wp2_with fail
          refine ((callsIn_wide.2 HDL.out).inRound l).mono ?_
          rintro e W4 ⟨h9, rfl, T9, c9⟩
          have b5 := (c9.block Bt (blk_lt HB3.out.1) fun e => by have := HNE.out; omega).trans HB3.out.1
          have b6 := (c9.block Bk (blk_lt HB3.out.2) fun e => by have := HNE.out; omega).trans HB3.out.2
          have hdl : (delL L8 y.1).length ≤ L8.length := del_le1 HRI.out y.1
          have HPU := Lib.hid (tput_any T9 k0 77 (by have := HALL.out.2.2.1; have := HLEN.out; have := HFL.out; have := HLr.out; omega))
          have HT9 := Lib.hid (And.intro T9.rise (And.intro c9 hdl))
          have d1 : W4.cell? ⟨Bt, 0, none⟩ = some (.pointer (some ⟨t, 0, none⟩)) := blk_cell b5
          have d2 : W4.cell? ⟨Bk, 0, none⟩ = some (.string k0) := blk_cell b6
          clear T9 c9 b5 b6 hdl HDL c6
          gi_wp2_with fail
          refine ((callsIn_wide.2 HPU.out).inRound l).mono ?_
          rintro e W5 ⟨h10, rfl, T10, c10⟩
          have HFIN : Hid (KeepsFrom w7.heap.size W W5 ∧ KpT W W5 ∧ StI E t 100 w7 (pre ++ [y]) W5) := by
            obtain ⟨q1, q2, qL, q3, hkk, hown, hct⟩ := HALL.out
            have c35 : Ch (fun i => i = t) W3 W5 := HT9.out.2.1.trans c10
            have hall : Ch (fun i => v.ownBlock = some i ∨ i = E ∨ i = t) W W5 := (hkk.mono fun _ _ e => e.imp id Or.inl).trans (c35.mono fun _ _ e => Or.inr (Or.inr e))
            refine Lib.hid ⟨keeps_cells hall fun i e => ?_, KpT.of hall fun i c T f hi hc ht => ?_, _, h10, _, ?_, HO3.out.ch c35 fun i e x => ?_, T10, ?_, ch_then q3 hall fun i e => ?_⟩
            · rcases e with e | e | e
              · obtain ⟨c, hc⟩ := hown i e
                exact Or.inr ⟨_, _, _, hc⟩
              · exact Or.inl (by rw [e]; exact HNE.out.2.2.2.2)
              · exact Or.inl (by rw [e]; have := HNE.out; omega)
            · rcases hi with hi | hi | hi
              · obtain ⟨c', hc'⟩ := hown i hi
                rw [hc] at hc'
                injection hc' with hc'
                injection hc' with _ hc' _
                rw [hc'] at ht
                exact absurd ht (by unfold TTy; decide)
              · rw [hi, q1] at hc
                injection hc with hc
                injection hc with _ hc _
                rw [← hc] at ht
                exact absurd ht (by unfold TTy; decide)
              · rw [hi, hct] at hc
                injection hc with hc
                injection hc with _ hc _
                rw [← hc] at ht
                exact absurd ht (by unfold TTy; decide)
            · exact (c35.block E (blk_lt HVS.out) fun e => by have := HNE.out; omega).trans HVS.out
            · have h1 : g = i := by injection e
              have := HGL.out
              have := HNE.out
              omega
            · have z1 := put_le1 (rise_del HRI.out y.1) k0 77
              have z2 := HT9.out.2.2
              rw [List.length_append, List.length_singleton]
              omega
            · rcases e with e | e | e
              · exact Or.inr (q2.lo e).1
              · exact Or.inl (Or.inl e)
              · exact Or.inl (Or.inr e)
          clear T10 c10 d1 d2
          gi_wp2_with fail
          exact HFIN.out
        case done =>
          rintro D ys W hD hys ⟨v, h8, L8, q1, q2, qT, qL, q3⟩ hK
          rw [fromL_empty] at hys
          subst hys
          have o5 := HO7.out.ch q3 fun i e x => by
            obtain ⟨_, c, hc⟩ := own_at HO7.out e
            rcases x with x | x
            · rw [x, HBE7.out] at hc
              injection hc with hc
              injection hc with _ hc _
              exact absurd hc (by decide)
            · obtain ⟨ct, ft, hct⟩ := HT7.out.cell
              rw [x, hct] at hc
              injection hc with hc
              injection hc with _ hc _
              exact absurd hc (by decide)
          obtain ⟨A3, C3, rfl⟩ := q2.len
          obtain ⟨A4, C4, rfl⟩ := HO7.out.len
          have hs := rsame_any A3 A4 C3 C4 ys W (q2.read kdKv_ok (by have := HLr.out; omega)) (o5.read kdKv_ok (by have := HLr.out; omega)) (by have := HLr.out; omega)
          have c1 : W.cell? ⟨E, 0, none⟩ = some (.slice A3 ys.length C3) := blk_cell q1
          have HSM := Lib.hid hs
          have HCW := Lib.hid (HC7.out.new (q3.mono fun i _ e => by have := HNE.out; rcases e with e | e <;> omega))
          have HK := Lib.hid hK
          have HDW := Lib.hid hD
          clear hs q1 q2 qT qL q3 o5 hK hD
          gi_wp2_with fail
          refine (callsIn_wide.2 HSM.out).mono ?_
          rintro e W9 ⟨rfl, hc9⟩
          have hK9 : W9.heap[D]? = some (.deferred (some [])) := (hc9.block D (Array.getElem?_eq_some_iff.1 HK.out).1 (fun f => f)).trans HK.out
          have kD : Ch (fun i => i = D) W9 (W9.putObj D (.deferred none)) := row_ch (grownBy_putObj' W9 D (.deferred none)) |>.mono fun i _ e => by injection e with e; exact e.symm
          have HFIN : Hid (Told w (.returned (.bool true)) (W9.putObj D (.deferred none))) := Lib.hid ⟨rfl, (HCW.out.trans hc9).new (kD.mono fun i _ e => by rw [e]; exact Nat.le_trans HC7.out.size HDW.out)⟩
          clear hc9 kD
          gi_wp2_with fail
          refine ⟨by simp, .inl ⟨_, _, rfl, run_takeDeferred hK9, ?_⟩⟩
          refine ⟨.bool true, (results_tmp rfl _ _ _).trans ?_, HFIN.out⟩
          rfl
#print axioms treeStays_of
end Go.Proofs.Ytkpgaejmhddkdaa
