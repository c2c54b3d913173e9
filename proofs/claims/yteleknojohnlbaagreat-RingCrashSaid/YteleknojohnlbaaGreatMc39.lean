/-
  (*ring.Ring).Append, walked.
-/
import Derived.Test.YteleknojohnlbaaGreatMc36
namespace Go.Proofs.YteleknojohnlbaaGreat
open Go.RowKit
set_option linter.unusedVariables false
set_option maxRecDepth 100000
set_option linter.unusedSimpArgs false
attribute [local go_sem] Oper.semAt_some wide_fn wide_depth
theorem results_err {fn : Func} {q : Tmp} (h : fn.results = #[.cell q 28]) (tmps : Array Value) (w : World) (E : Nat) (e : Int) (hq : tmps.getD q undef = .pointer (some ⟨E, 0, none⟩)) (he : w.cell? ⟨E, 0, none⟩ = some (.int .i64 e)) : (results fn tmps).run Tryz.prog w = .ok (.int .i64 e) w := by
  simp only [Array.getD_eq_getD_getElem?] at hq
  simp [results, h, go_sem, hq, asAddr, he]
theorem DevIs.cells {base : Nat} {w : World} {p : Ph} {d : Dev} (h : DevIs base w p d) {i : Nat} (hi : Foot p d i) : ∃ c t, w.heap[i]? = some (.cells c t (0, 0)) := by
  rcases hi with rfl | rfl | hi | ⟨a, ha, hi⟩
  · exact ⟨_, _, h.blk⟩
  · obtain ⟨c, hc, _⟩ := h.sec; exact ⟨c, _, hc⟩
  · obtain ⟨_, c, hc⟩ := own_at h.wts hi; exact ⟨c, _, hc⟩
  · obtain ⟨c, hc⟩ := (h.ms a ha).at hi; exact ⟨c, _, hc⟩
structure ApI (base : Nat) (p : Ph) (d : Dev) (R : Nat) (w8 : World) (s : ApS) (W : World) : Prop where
  rg : RgIs W R s.x
  dev : ∃ p' : Ph, p'.B = p.B ∧ DevIs base W p' s.d ∧ ∀ i, Foot p' s.d i → Foot p d i ∨ w8.heap.size ≤ i
  ch : Ch (fun i => Foot p d i ∨ i = R) w8 W
section
variable {base : Nat} {p : Ph} {d : Dev} {R : Nat} {w w8 W W' : World} {s : ApS}
theorem ApI.start (h : DevIs base w8 p d) {x : Rg} {e : Int} (hr : RgIs w8 R x) : ApI base p d R w8 ⟨d, x, e⟩ w8 := ⟨hr, ⟨p, rfl, h, fun i hi => Or.inl hi⟩, Ch.refl _ _⟩
theorem ApI.grown (h : ApI base p d R w8 s W) {row : Option Nat} (hg : W.grownBy W' row) (hr : ∀ r, row = some r → w8.heap.size ≤ r ∧ ∃ o : Obj, W.heap[r]? = some o ∧ o.isCells = false) : ApI base p d R w8 s W' := by
  have hnc : ∀ i c t, W.heap[i]? = some (.cells c t (0, 0)) → ¬ row = some i := fun i c t hc e => by
    obtain ⟨_, o, ho, hn⟩ := hr i e
    rw [hc] at ho; cases ho; cases hn
  obtain ⟨p', h1, h2, h3⟩ := h.dev
  refine ⟨h.rg.off (row_ch hg) (hnc R _ _ h.rg), ⟨p', h1, h2.ch (row_ch hg) fun i hi => ?_, h3⟩, ch_then h.ch (row_ch hg) fun i e => Or.inr (hr i e).1⟩
  obtain ⟨c, t, hc⟩ := h2.cells hi
  exact hnc i c t hc
theorem ApI.own (base : Nat) (p : Ph) (d : Dev) (R : Nat) (w8 : World) {β : Type} (F : β → ApS) (Y : β → Prop) : OwnFrom w8.heap.size (fun b W => Y b ∧ ApI base p d R w8 (F b) W) := fun b W W' row h hg hr => ⟨h.1, h.2.grown hg hr⟩
theorem ApI.step (h : ApI base p d R w8 s W) {p' : Ph} (hp1 : p'.B = p.B) (hp2 : ∀ i, Foot p' s.d i → Foot p d i ∨ w8.heap.size ≤ i) {q : Pn} {e : Ending} (hw : WrPost base p' s.d R s.x q W e W') : ApI base p d R w8 ⟨wrD s.x q s.d, nxR s.x q (wrE s.x q s.d), wrE s.x q s.d⟩ W' := by
  obtain ⟨_, h2, p2, h3, h4, h5, h6⟩ := hw
  refine ⟨h2, ⟨p2, h3.trans hp1, h4, fun i hi => ?_⟩, ch_then h.ch h6 fun i q => ?_⟩
  · rcases h5 i hi with q | q
    · exact hp2 i q
    · exact Or.inr (Nat.le_trans h.ch.size q)
  · rcases q with q | q
    · exact (hp2 i q).imp Or.inl fun r => by
        have : w8.heap.size ≤ i := r
        exact this
    · exact Or.inl (Or.inr q)
theorem ApI.set (h : ApI base p d R w8 s W) (k : Ch (fun _ => False) w w8) {E : Nat} (kE : Ch (fun i => i = E) W W') (h1 : w.heap.size ≤ E) (h2 : E < w8.heap.size) (h3 : ¬ Foot p d E) (h4 : E ≠ R) : ApI base p d R w s W' := by
  obtain ⟨p', a1, a2, a3⟩ := h.dev
  refine ⟨h.rg.off kE (fun e => h4 e.symm), ⟨p', a1, a2.ch kE fun i hi e => ?_, fun i hi => (a3 i hi).imp id fun q => Nat.le_trans k.size q⟩, ch_then ((k.mono fun _ _ f => f.elim).trans h.ch) kE fun i e => Or.inr (by rw [e]; exact h1)⟩
  subst e
  rcases a3 i hi with q | q
  · exact h3 q
  · omega
theorem ApI.cell (h : ApI base p d R w8 s W) {b o : Nat} {v : Value} (hc : w8.cell? ⟨b, o, none⟩ = some v) (h1 : ¬ Foot p d b) (h2 : b ≠ R) : W.cell? ⟨b, o, none⟩ = some v := h.ch.cell hc (fun q => q.elim h1 h2)
theorem ApI.keeps {p' : Ph} {s : ApS} (hD : DevIs base W p' s.d) (hR : RgIs W R s.x) (k : Ch (fun i => Foot p' s.d i ∨ i = R) W W') (B : Nat) : KeepsFrom B W W' :=
  ⟨k.size, fun i o _ ho hc => (k.block i (Array.getElem?_eq_some_iff.1 ho).1 (fun q => by
    rcases q with q | q
    · obtain ⟨c, t, hx⟩ := hD.cells q
      rw [hx] at ho; cases ho; cases hc
    · rw [q, show W.heap[R]? = _ from hR] at ho; cases ho; cases hc)).trans ho⟩
end
theorem Off.or {S T : Nat → Prop} {x : Value} (h : Off S x) (k : Off T x) : Off (fun i => S i ∨ T i) x := fun b o n C e q => q.elim (h b o n C e) (k b o n C e)
theorem zipP {A : Option Addr} {n C : Nat} (p q : Tmp) (x : Ix n) (t : Array Value) : ((#[p, q] : Array Tmp).zip (encP A n C x)).foldl (fun t (p, v) => t.setIfInBounds p v) t = (t.setIfInBounds p (.int .i64 (x.1 : Int))).setIfInBounds q (pcV A C (x.1 * 200) (lenP n x.1)) := by
  simp [encP]
theorem litZ_pc {B : List Nat} {i j : Nat} (h : j < (pcB B i).length) : Cod.litZ (pcB B i) j = Cod.litZ B (i * 200 + j) := by
  unfold pcB at h ⊢
  rw [List.length_take] at h
  unfold Cod.litZ
  rw [List.getD_eq_getElem?_getD, List.getD_eq_getElem?_getD, List.getElem?_take_of_lt (by omega), List.getElem?_drop]
theorem pc_row {W : World} {A : Option Addr} {n C i : Nat} {B : List Nat} (h : RowV W (.slice A n C) n (Cod.litZ B)) (hn : n = B.length) (hi : i * 200 ≤ n) : RowV W (pcV A C (i * 200) (lenP n i)) (pcB B i).length (Cod.litZ (pcB B i)) := by
  rw [pcB_len, ← hn]
  refine (pcV_row h (by unfold lenP; omega)).congr fun j hj => ?_
  rw [litZ_pc (by rw [pcB_len, ← hn]; exact hj)]
theorem apL_cut {o : Int} {B : List Nat} {s : ApS} {k m : Nat} (hk : k ≤ m) (h : (apL o B s (List.range k)).e ≠ 0) : apL o B s (List.range m) = apL o B s (List.range k) := by
  have e : List.range m = List.range k ++ (List.range' k (m - k)) := by
    rw [List.range_eq_range', List.range_eq_range', show m = k + (m - k) by omega, ← List.range'_append_1, Nat.zero_add, Nat.add_sub_cancel_left]
  rw [e]
  unfold apL at h ⊢
  rw [List.foldl_append]
  exact ap_stop h _
def ApPost (base : Nat) (p : Ph) (d : Dev) (R : Nat) (x : Rg) (B : List Nat) (w : World) (e : Ending) (w' : World) : Prop := e = .returned (.int .i64 (appS x B d).e) ∧ ApI base p d R w (appS x B d) w'
set_option maxHeartbeats 12800000 in
theorem rappend_any (base : Nat) (p : Ph) (d : Dev) (R : Nat) (x : Rg) (B : List Nat) (A : Option Addr) (C t : Nat) (w : World) (h : DevIs base w p d) (hr : RgIs w R x) (hxd : x.d = p.B) (hRf : ¬ Foot p d R) (hx : RgOk x)
    (hB : RowV w (.slice A B.length C) B.length (Cod.litZ B)) (hb : ∀ c ∈ B, c < 256) (hoff : Off (fun i => Foot p d i ∨ i = R) (.slice A B.length C)) (hl : Lim d t) (hm : LimM d t) (ht : t + 26 * 64 ≤ 900000) :
    Calls Tryz.prog 35 #[.pointer (some ⟨R, 0, none⟩), .slice A B.length C] w (ApPost base p d R x B w) := by
  obtain ⟨A1, C1, e1, ⟨hn0, hnC⟩, hg2⟩ := id hB
  injection e1 with e1a _ e1c
  subst e1a
  subst e1c
  obtain ⟨n, hn⟩ : ∃ n, n = B.length := ⟨_, rfl⟩
  have HDV := Lib.hid h
  have HRG := Lib.hid hr
  have HXD := Lib.hid hxd
  have HRF := Lib.hid hRf
  have HX := Lib.hid hx
  rw [← hn] at hB hoff hn0 hnC ⊢
  have HB := Lib.hid hB
  have HBB := Lib.hid hb
  have HOFF := Lib.hid hoff
  have HPL := Lib.hid (And.intro hl (And.intro hm ht))
  have HCC := Lib.hid (And.intro hnC True.intro)
  have HN := Lib.hid hn
  have HRL := Lib.hid (blk_lt (o := .cells (rgC x) 109 (0, 0)) hr)
  have HFT := Lib.hid (fun i (hi : Foot p d i) => (h.foot hi).2)
  have HN0 := Lib.hid hn0
  clear h hr hxd hRf hx hB hb hoff hl hm ht hnC hg2 hn hn0
  refine (callsIn_wide (n := 9)).1 ?_
  refine callsIn_of_wp_marks Tryz.func35 rfl trivial ?_ rfl
  simp only [Tryz.ntmps35, List.size_toArray, List.length_cons, List.length_nil, Nat.reduceAdd, Nat.reduceSub, Array.replicate_succ, Array.replicate_zero, List.push_toArray, List.append_toArray, List.nil_append, List.cons_append]
  gi_upto_region 0 with fail
  refine wpIn_wide.2 ?_
  go_wp2_with fail
  obtain ⟨w1, hw1⟩ : ∃ w1, w1 = w.alloc (.cells #[.pointer (some ⟨R, 0, none⟩)] 51) := ⟨_, rfl⟩
  obtain ⟨w2, hw2⟩ : ∃ w2, w2 = w1.alloc (.cells #[.int .i64 0] 28) := ⟨_, rfl⟩
  obtain ⟨B2, hB2⟩ : ∃ b, b = w.heap.size := ⟨_, rfl⟩
  obtain ⟨E, hE⟩ : ∃ b, b = w.heap.size + 1 := ⟨_, rfl⟩
  rw [← hw1, ← hw2, ← hE, ← hB2]
  have hc1 : Ch (fun _ => False) w w1 := by rw [hw1]; exact (Ch.refl _ w).alloc _ _
  have hc12 : Ch (fun _ => False) w1 w2 := by rw [hw2]; exact (Ch.refl _ w1).alloc _ _
  have x1 : w1.heap[B2]? = some (.cells #[.pointer (some ⟨R, 0, none⟩)] 51 (0, 0)) := by rw [hw1, hB2]; exact heap_alloc_new _ _
  have HSZ := Lib.hid (show B2 = w.heap.size ∧ E = w.heap.size + 1 ∧ w2.heap.size = w.heap.size + 2 by
    have e1 : w1.heap.size = w.heap.size + 1 := by rw [hw1]; exact Array.size_push _
    have e2 : w2.heap.size = w1.heap.size + 1 := by rw [hw2]; exact Array.size_push _
    exact ⟨hB2, hE, by omega⟩)
  have HX2 := Lib.hid ((hc12.block B2 (blk_lt x1) (fun f => f)).trans x1)
  have HE2 : Hid (w2.heap[E]? = some (.cells #[.int .i64 0] 28 (0, 0))) := Lib.hid (by
    have e1 : w1.heap.size = w.heap.size + 1 := by rw [hw1]; exact Array.size_push _
    rw [hw2, hE, ← e1]; exact heap_alloc_new _ _)
  have HC2 := Lib.hid (hc1.trans hc12)
  have HCN := Lib.hid (rcount_any A n C w2 HN0.out)
  clear hw1 hw2 hB2 hE hc1 hc12 x1
  have x2 : w2.cell? ⟨B2, 0, none⟩ = some (.pointer (some ⟨R, 0, none⟩)) := blk_cell HX2.out
  go_wp2
  gi_upto_region 3 with fail
  refine wpIn_wide.2 ?_
  go_wp2_with fail
  refine HCN.out.mono ?_
  rintro e w3 ⟨rfl, hc3⟩
  obtain ⟨o, ho⟩ : ∃ o, o = cntR n := ⟨_, rfl⟩
  clear x2 HCN
  go_wp2
  rw [← ho]
  obtain ⟨w4, hw4⟩ : ∃ w4, w4 = w3.alloc (.cells #[.int .i64 o] /-t-/3) := ⟨_, rfl⟩
  obtain ⟨B5, hB5⟩ : ∃ b, b = w3.heap.size := ⟨_, rfl⟩
  rw [← hw4, ← hB5]
  have hc34 : Ch (fun _ => False) w3 w4 := by rw [hw4]; exact (Ch.refl _ w3).alloc _ _
  have hc24 := hc3.trans hc34
  have HX5 : Hid (w4.heap[B5]? = some (.cells #[.int .i64 o] /-t-/3 (0, 0))) := Lib.hid (by rw [hw4, hB5]; exact heap_alloc_new _ _)
  have HX4 := Lib.hid ((hc24.block B2 (blk_lt HX2.out) (fun f => f)).trans HX2.out)
  have HE4 := Lib.hid ((hc24.block E (blk_lt HE2.out) (fun f => f)).trans HE2.out)
  have HC4 := Lib.hid (HC2.out.trans hc24)
  have HS4 := Lib.hid (show B5 < w4.heap.size ∧ w.heap.size + 2 ≤ B5 ∧ B2 = w.heap.size ∧ E = w.heap.size + 1 by
    have h1 := hc3.size
    have h2 := HSZ.out
    have h3 := blk_lt HX5.out
    exact ⟨h3, by omega, h2.1, h2.2.1⟩)
  have HR4 := Lib.hid (HRG.out.gr HC4.out)
  have HD4 := Lib.hid (HDV.out.gr HC4.out)
  have HO := Lib.hid ho
  have ob : 1 ≤ o ∧ o ≤ 9007199254740992 := by rw [ho]; have := HN0.out; unfold cntR; split <;> omega
  clear hw4 hB5 hc34 hc24 hc3 HSZ HX2 HE2 HC2 HN0 ho
  have y5 : w4.cell? ⟨B5, 0, none⟩ = some (.int .i64 o) := blk_cell HX5.out
  have HEB := Lib.hid (show w.heap.size ≤ E ∧ E < w4.heap.size ∧ ¬ Foot p d E ∧ E ≠ R by
    have h1 := HS4.out
    exact ⟨by omega, by omega, fun hf => by have := HFT.out E hf; omega, by have := HRL.out; omega⟩)
  have c4 : w4.cell? ⟨E, 0, none⟩ = some (.int .i64 0) := blk_cell HE4.out
  have f4 : w4.frozen? ⟨E, 0, none⟩ = false := blk_frozen HE4.out
  have HERR : Hid (∀ (w5 : World) (e : Int), Ch (fun _ => False) w4 w5 → apE0 x B.length = e → e ≠ 0 → ApPost base p d R x B w (.returned (.int .i64 e)) (w5.setCell ⟨E, 0, none⟩ (.int .i64 e))) := Lib.hid fun w5 e hc he hne => by
    have hs : appS x B d = ⟨d, x, e⟩ := by unfold appS; rw [if_neg (by rw [he]; exact hne), he]
    unfold ApPost
    rw [hs]
    refine ⟨rfl, ApI.set (w8 := w5) (ApI.start (HD4.out.gr hc) (HR4.out.gr hc)) (HC4.out.trans hc) ((Ch.refl (fun i => i = E) w5).setCell (p := ⟨E, 0, none⟩) (Or.inl rfl) _) HEB.out.1 (Nat.lt_of_lt_of_le HEB.out.2.1 hc.size) HEB.out.2.2.1 HEB.out.2.2.2⟩
  by_cases h64 : 64 < o
  · have HFIN := Lib.hid (HERR.out w4 2 (Ch.refl _ _) (by unfold apE0; rw [← HN.out, ← HO.out, if_pos h64]) (by decide))
    have HR5 : Hid ((w4.setCell ⟨E, 0, none⟩ (.int .i64 2)).cell? ⟨E, 0, none⟩ = some (.int .i64 2)) := Lib.hid (blk_cell (blk_set (i := 0) HE4.out _))
    gi_upto_region 5 with fail
    refine wpIn_wide.2 ?_
    go_wp2_with fail
    gi_wp2
    exact ⟨_, results_err Tryz.results35 _ _ E 2 rfl HR5.out, HFIN.out⟩
  · have x2 : w4.cell? ⟨B2, 0, none⟩ = some (.pointer (some ⟨R, 0, none⟩)) := blk_cell HX4.out
    have r9 : w4.cell? ⟨R, 9, none⟩ = some (.int .i64 x.next) := blk_cell HR4.out
    have r8 : w4.cell? ⟨R, 8, none⟩ = some (.int .i64 x.start) := blk_cell HR4.out
    have r2 : w4.cell? ⟨R, 2, none⟩ = some (.int .i64 x.g.wal) := blk_cell HR4.out
    obtain ⟨F, hF⟩ : ∃ F, F = x.next + o := ⟨_, rfl⟩
    have hx1 := HX.out.fr
    have hx2 := HX.out.nx
    have hx3 := HX.out.st
    have e6 : wrap64 (x.next + o) = F := by rw [hF]; exact IntWalk.wrap64_in _ ⟨by omega, by omega⟩
    obtain ⟨Gp, hGp⟩ : ∃ Gp, Gp = F - x.start := ⟨_, rfl⟩
    have e7 : wrap64 (F - x.start) = Gp := by rw [hGp]; exact IntWalk.wrap64_in _ ⟨by omega, by omega⟩
    have HF := Lib.hid hF
    have HG := Lib.hid hGp
    clear hx1 hx2 hx3 hF hGp
    gi_upto_region 6 with fail
    refine wpIn_wide.2 ?_
    go_quiet (fail)
    obtain ⟨w5, hw5⟩ : ∃ w5, w5 = w4.drewN nq := ⟨_, rfl⟩
    rw [← hw5, e6]
    have hc5 : Ch (fun _ => False) w4 w5 := by rw [hw5]; exact (Ch.refl _ w4).drewN nq
    clear hw5 x2 r9 r8 r2 y5 c4 f4 e6
    have HC5 := Lib.hid hc5
    have x2 : w5.cell? ⟨B2, 0, none⟩ = some (.pointer (some ⟨R, 0, none⟩)) := hc5.cell (blk_cell HX4.out) (fun f => f)
    have r8 : w5.cell? ⟨R, 8, none⟩ = some (.int .i64 x.start) := hc5.cell (blk_cell HR4.out) (fun f => f)
    have r2 : w5.cell? ⟨R, 2, none⟩ = some (.int .i64 x.g.wal) := hc5.cell (blk_cell HR4.out) (fun f => f)
    clear hc5
    gi_wp2
    by_cases hf1 : x.g.wal < Gp
    · have hd : decide (x.g.wal < IntKind.i64.wrap (F - x.start)) = true := by rw [show IntKind.i64.wrap (F - x.start) = Gp from (IntWalk.i64_left _).trans e7]; exact decide_eq_true hf1
      have HE0 := Lib.hid (show apE0 x B.length = 4 by
        unfold apE0
        rw [← HN.out, ← HO.out, if_neg (Int.not_lt.2 h64), if_pos]
        refine Or.inl ?_
        rw [← HF.out, ← HG.out]; exact hf1)
      clear hf1
      gi_upto_region 7 with fail
      refine wpIn_wide.2 ?_
      go_quiet (fail)
      obtain ⟨w6, hw6⟩ : ∃ w6, w6 = w5.drewN nq := ⟨_, rfl⟩
      rw [← hw6]
      have hc6 : Ch (fun _ => False) w4 w6 := by rw [hw6]; exact HC5.out.trans ((Ch.refl _ w5).drewN nq)
      clear hw6 x2 r8 r2
      have he6 := (hc6.block E (blk_lt HE4.out) (fun f => f)).trans HE4.out
      have c4 : w6.cell? ⟨E, 0, none⟩ = some (.int .i64 0) := blk_cell he6
      have f4 : w6.frozen? ⟨E, 0, none⟩ = false := blk_frozen he6
      have HFIN := Lib.hid (HERR.out w6 4 hc6 HE0.out (by decide))
      have HR6 : Hid ((w6.setCell ⟨E, 0, none⟩ (.int .i64 4)).cell? ⟨E, 0, none⟩ = some (.int .i64 4)) := Lib.hid (blk_cell (blk_set (i := 0) he6 _))
      clear hc6 he6
      gi_wp2
      exact ⟨_, results_err Tryz.results35 _ _ E 4 rfl HR6.out, HFIN.out⟩
    · have hd : decide (x.g.wal < IntKind.i64.wrap (F - x.start)) = false := by rw [show IntKind.i64.wrap (F - x.start) = Gp from (IntWalk.i64_left _).trans e7]; exact decide_eq_false hf1
      by_cases hf2 : 4294967295 < F
      · have HE0 := Lib.hid (show apE0 x B.length = 4 by
          unfold apE0
          rw [← HN.out, ← HO.out, if_neg (Int.not_lt.2 h64), if_pos]
          exact Or.inr (by rw [← HF.out]; exact hf2))
        gi_upto_region 7 with fail
        refine wpIn_wide.2 ?_
        go_quiet (fail)
        obtain ⟨w6, hw6⟩ : ∃ w6, w6 = w5.drewN nq := ⟨_, rfl⟩
        rw [← hw6]
        have hc6 : Ch (fun _ => False) w4 w6 := by rw [hw6]; exact HC5.out.trans ((Ch.refl _ w5).drewN nq)
        clear hw6 x2 r8 r2
        have he6 := (hc6.block E (blk_lt HE4.out) (fun f => f)).trans HE4.out
        have c4 : w6.cell? ⟨E, 0, none⟩ = some (.int .i64 0) := blk_cell he6
        have f4 : w6.frozen? ⟨E, 0, none⟩ = false := blk_frozen he6
        have HFIN := Lib.hid (HERR.out w6 4 hc6 HE0.out (by decide))
        have HR6 : Hid ((w6.setCell ⟨E, 0, none⟩ (.int .i64 4)).cell? ⟨E, 0, none⟩ = some (.int .i64 4)) := Lib.hid (blk_cell (blk_set (i := 0) he6 _))
        clear hc6 he6
        gi_wp2
        exact ⟨_, results_err Tryz.results35 _ _ E 4 rfl HR6.out, HFIN.out⟩
      · have HE0 := Lib.hid (show apE0 x B.length = 0 by
          unfold apE0
          rw [← HN.out, ← HO.out, if_neg (Int.not_lt.2 h64), if_neg]
          rw [← HF.out, ← HG.out]; exact fun q => q.elim hf1 hf2)
        gi_upto_region 7 with fail
        refine wpIn_wide.2 ?_
        go_quiet (fail)
        obtain ⟨w6, hw6⟩ : ∃ w6, w6 = w5.drewN nq := ⟨_, rfl⟩
        rw [← hw6]
        have hc6 : Ch (fun _ => False) w4 w6 := by rw [hw6]; exact HC5.out.trans ((Ch.refl _ w5).drewN nq)
        clear hw6 x2 r8 r2
        have HC6 := Lib.hid hc6
        have HPC := Lib.hid (rpieces_any A n C w6)
        have HF2 := Lib.hid (Int.not_lt.1 hf2)
        have HO64 := Lib.hid h64
        clear hc6 hd e7 h64 hf1 hf2
        gi_wp2
        refine (callsIn_wide.2 HPC.out).mono ?_
        rintro e w8 ⟨Bt, rfl, hb1, hb2, hb3⟩
        have HC8 := Lib.hid (HC6.out.trans hb3)
        have HBT := Lib.hid (And.intro hb1 (show w.heap.size ≤ Bt from Nat.le_trans (HC4.out.trans HC6.out).size hb2))
        clear hb1 hb2 hb3 HPC
        gi_wp2
        obtain ⟨Wr, hWr⟩ : ∃ Wr, Wr = wrap64 (F - x.start) := ⟨_, rfl⟩
        rw [← hWr]
        clear hWr
        have HI8 : Hid (ApI base p d R w8 ⟨d, x, 0⟩ w8) := Lib.hid (ApI.start (HD4.out.gr HC8.out) (HR4.out.gr HC8.out))
        have HX8 := Lib.hid ((HC8.out.block B2 (blk_lt HX4.out) (fun f => f)).trans HX4.out)
        have HY8 := Lib.hid ((HC8.out.block B5 (blk_lt HX5.out) (fun f => f)).trans HX5.out)
        have HE8 := Lib.hid ((HC8.out.block E (blk_lt HE4.out) (fun f => f)).trans HE4.out)
        have HCW := Lib.hid (HC4.out.trans HC8.out)
        have HB8 := Lib.hid (HB.out.gr HCW.out)
        have HNE : Hid ((w.heap.size ≤ B2 ∧ B2 < w8.heap.size) ∧ (w.heap.size ≤ B5 ∧ B5 < w8.heap.size) ∧ (w.heap.size ≤ E ∧ E < w8.heap.size) ∧ (w.heap.size ≤ Bt ∧ Bt < w8.heap.size) ∧ R < w8.heap.size) := Lib.hid (by
          have h1 := HS4.out
          have h2 := HC8.out.size
          have h3 := HBT.out.2
          have h4 := blk_lt HBT.out.1
          have h5 := HRL.out
          have h6 := HC4.out.size
          exact ⟨⟨by omega, by omega⟩, ⟨by omega, by omega⟩, ⟨by omega, by omega⟩, ⟨h3, h4⟩, by omega⟩)
        have HNF : Hid (∀ b, w.heap.size ≤ b → ¬ Foot p d b ∧ b ≠ R) := Lib.hid fun b hb => ⟨fun hf => by have := HFT.out b hf; omega, by have := HRL.out; omega⟩
        have HOW : Hid (Off (fun i => (Foot p d i ∨ i = R) ∨ w8.heap.size ≤ i) (.slice A n C)) := Lib.hid (HOFF.out.or HB8.out.low)
        have HOC := Lib.hid (show o = (cntN n : Int) by rw [HO.out, cntN_eq])
        have HAPP : Hid (appS x B d = apL o B ⟨d, x, 0⟩ (List.range (cntN n))) := Lib.hid (by unfold appS; rw [if_pos HE0.out, ← HN.out, ← HO.out])
        have hn128 : n ≤ 12800 := by have h1 := HO64.out; have h2 := HOC.out; have h3 := cntN_all (n := n); omega
        clear HERR HE4 HX4 HX5 HD4 HR4 HC5 HC6 HS4 HEB HB HE0 HG HRG HDV
        refine wpIn_rangeFunc_ownG (ps := #[40, 41]) rfl (by omega) (gf := 109) (lb := #[.pointer (some ⟨Bt, 0, none⟩)]) rfl trivial (enters_of Tryz.func109 (by kernel_rfl) rfl)
          (encs := encP A n C) (Kp := KpP Bt) (S := fun ys => ys.map Fin.val = List.range (cntN n)) (Sp := fun pre => ∃ k, k ≤ cntN n ∧ pre.map Fin.val = List.range k) (N := cntN n) (w0 := w8)
          (fun l J Jx W hW hJ hJx hY h0 => pieces1_in 8 (by omega) l Bt A n C hn128 HCC.out.1 J Jx W hJ hY ((hW.block Bt HNE.out.2.2.2.1.2).trans HBT.out.1) h0)
          (fun h k => h.trans k) (fun W l o o' _ ho hc _ => KpP.put ho hc) (Below.refl _ _) (fun _ => rfl)
          (fun l W => (apL o B ⟨d, x, 0⟩ (l.map Fin.val)).e = 0 ∧ ApI base p d R w8 (apL o B ⟨d, x, 0⟩ (l.map Fin.val)) W)
          (fun c l W => (c = .ret ∧ (apL o B ⟨d, x, 0⟩ (l.map Fin.val)).e ≠ 0) ∧ (ApI base p d R w (apL o B ⟨d, x, 0⟩ (l.map Fin.val)) W ∧ W.heap[E]? = some (.cells #[.int .i64 (apL o B ⟨d, x, 0⟩ (l.map Fin.val)).e] 28 (0, 0))))
          (ApI.own base p d R w8 _ _) ?ownX ⟨rfl, HI8.out⟩
          (fun y => { tmps := #[.pointer (some ⟨R, 0, none⟩), .slice A n C, .pointer (some ⟨B2, 0, none⟩), undef, .pointer (some ⟨E, 0, none⟩), .pointer (some ⟨B5, 0, none⟩), .int .i64 F, .int .i64 (y.1 : Int), pcV A C (y.1 * 200) (lenP n y.1), undef, .pointer (some ⟨R, 0, none⟩), .bool false, .slice A n C, .int .i64 o, .int .i64 o, .bool false, .pointer (some ⟨R, 0, none⟩), .pointer (some ⟨R, 0, none⟩), .pointer (some ⟨R, 9, none⟩), .int .i64 x.next, .int .i64 o, .int .i64 F, .int .i64 F, .pointer (some ⟨R, 0, none⟩), .pointer (some ⟨R, 0, none⟩), .pointer (some ⟨R, 8, none⟩), .int .i64 x.start, .int .i64 Wr, .pointer (some ⟨R, 0, none⟩), .pointer (some ⟨R, 0, none⟩), .pointer (some ⟨R, 2, none⟩), .pointer (some ⟨R, 2, none⟩), .int .i64 x.g.wal, .bool false, .bool false, .int .i64 F, .bool false, .bool false, .slice A n C, .func (.func 109) #[] #[.pointer (some ⟨Bt, 0, none⟩)], .int .i64 (y.1 : Int), pcV A C (y.1 * 200) (lenP n y.1), undef, undef, undef, undef, undef, undef, undef, undef], defers := [] }) ?assign ?body ?done ?stop
        case ownX =>
          rintro c l W W' row ⟨h1, h2, h3⟩ hg hr
          refine ⟨h1, h2.grown hg fun r e => ⟨Nat.le_trans HCW.out.size (hr r e).1, (hr r e).2⟩, ((row_ch hg).block E (blk_lt h3) fun e => ?_).trans h3⟩
          obtain ⟨_, ob, ho, hn⟩ := hr E e
          rw [h3] at ho; cases ho; cases hn
        case assign =>
          intro l y W K hK
          rw [zipP]
          simp only [List.setIfInBounds_toArray, List.set_cons_zero, List.set_cons_succ]
          gi_wp2
          exact hK
        case body =>
          rintro l pre y W ⟨he0, hI⟩ hlen
          have hst := ap_ok (o := o) (B := B) (d := d) HBB.out HX.out (pre.map Fin.val) he0
          rw [List.length_map] at hst
          have hlm := ap_lim (o := o) (B := B) (s := ⟨d, x, 0⟩) (t := t) HPL.out.1 HPL.out.2.1 (pre.map Fin.val)
          rw [List.length_map] at hlm
          have hnx : apL o B ⟨d, x, 0⟩ ((pre ++ [y]).map Fin.val) = apStep o B (apL o B ⟨d, x, 0⟩ (pre.map Fin.val)) y.1 := by rw [List.map_append]; exact apL_snoc _ _ _ _ _
          obtain ⟨s, hs⟩ : ∃ s, s = apL o B ⟨d, x, 0⟩ (pre.map Fin.val) := ⟨_, rfl⟩
          rw [← hs] at he0 hI hst hlm hnx
          obtain ⟨p', hp1, hp2, hp3⟩ := hI.dev
          obtain ⟨q, hq⟩ : ∃ q, q = apQ o B s.x y.1 := ⟨_, rfl⟩
          have hqB : q.B = pcB B y.1 := by rw [hq]; rfl
          have hy1 := y.2
          have hyo : (y.1 : Int) < o := by rw [HOC.out]; omega
          have hlo : y.1 * 200 ≤ n := by have := cntN_lt hy1; omega
          have hBW := HB8.out.off hI.ch HOFF.out
          have hok := hst.ok HX.out (by have h1 := HF.out; have h2 := HF2.out; have h3 := HOC.out; omega)
          have hRn : ¬ Foot p' s.d R := fun hf => (hp3 R hf).elim HRF.out (fun h => by have := HNE.out.2.2.2.2; omega)
          have hro : rokB s.x.vol s.x.g 0 q = true := by rw [hq]; exact ap_rok hok ⟨ob.1, HO64.out⟩ hyo
          have HW := Lib.hid (rwrite_any base p' s.d R s.x (y.1 : Int) o q (if C = y.1 * 200 then A else A.map (fun a => a.add (y.1 * 200))) (lenP n y.1) (C - y.1 * 200) (t + 26 * pre.length) W hp2 hI.rg (by rw [hst.d, HXD.out, hp1]) hRn (by rw [hq]; rfl) (by rw [hqB, pcB_len, ← HN.out]) hro
            ⟨by rw [hqB]; exact pc_row hBW HN.out hlo, by rw [hqB]; exact pcB_b HBB.out y.1⟩
            (pcV_off (lo := y.1 * 200) (len := lenP n y.1) (HOW.out.mono fun i hi => by
              rcases hi with hi | hi
              · exact (hp3 i hi).imp Or.inl id
              · exact Or.inl (Or.inr hi)) hBW (by unfold lenP; omega)) hlm.1 hlm.2 (by have h1 := HPL.out.2.2; have h2 := HO64.out; have h3 := HOC.out; omega))
          have HNX := Lib.hid (show apL o B ⟨d, x, 0⟩ ((pre ++ [y]).map Fin.val) = ⟨wrD s.x q s.d, nxR s.x q (wrE s.x q s.d), wrE s.x q s.d⟩ by rw [hnx, hq]; exact if_pos he0)
          have x2 : W.cell? ⟨B2, 0, none⟩ = some (.pointer (some ⟨R, 0, none⟩)) := hI.cell (blk_cell HX8.out) (HNF.out B2 HNE.out.1.1).1 (HNF.out B2 HNE.out.1.1).2
          have x5 : W.cell? ⟨B5, 0, none⟩ = some (.int .i64 o) := hI.cell (blk_cell HY8.out) (HNF.out B5 HNE.out.2.1.1).1 (HNF.out B5 HNE.out.2.1.1).2
          have HI := Lib.hid hI
          have HP := Lib.hid (And.intro hp1 (And.intro hp2 hp3))
          clear hst hlm hnx hs hq hqB hy1 hyo hlo hBW hok hRn hro hp1 hp2 hp3 hI he0 hlen ob
          gi_upto_region 12 with fail
          refine wpIn_round_lit (by kernel_rfl) (fun ⟨_, _, h⟩ => h) ?_
          go_wp2_with fail
          refine HW.out.mono ?_
          rintro e W2 hw
          obtain ⟨Ew, hEw⟩ : ∃ Ew, Ew = wrE s.x q s.d := ⟨_, rfl⟩
          obtain ⟨rfl, hw1⟩ := id hw
          have HI2 := Lib.hid (HI.out.step HP.out.1 HP.out.2.2 hw)
          obtain ⟨_, p2, _, _, _, hch⟩ := hw1
          have HK1 : Hid (KeepsFrom w8.heap.size W W2) := Lib.hid (ApI.keeps HP.out.2.1 HI.out.rg hch _)
          have HK2 : Hid (KpP Bt W W2) := Lib.hid fun c hc => (hch.block Bt (blk_lt hc) fun hf => by
            rcases hf with hf | hf
            · rcases HP.out.2.2 Bt hf with h | h
              · exact (HNF.out Bt HNE.out.2.2.2.1.1).1 h
              · have := HNE.out.2.2.2.1.2; omega
            · exact (HNF.out Bt HNE.out.2.2.2.1.1).2 hf).trans hc
          rw [← hEw] at HNX HI2 ⊢
          clear hw hch x2 x5 HW hEw
          by_cases hE0 : Ew = 0
          · have HF1 : Hid ((apL o B ⟨d, x, 0⟩ ((pre ++ [y]).map Fin.val)).e = 0 ∧ ApI base p d R w8 (apL o B ⟨d, x, 0⟩ ((pre ++ [y]).map Fin.val)) W2) := Lib.hid (by rw [HNX.out]; exact ⟨hE0, HI2.out⟩)
            go_wp2
            gi_wp2
            exact ⟨HK1.out, HK2.out, HF1.out⟩
          · have he2 := (HI2.out.ch.block E HNE.out.2.2.1.2 (fun hf => hf.elim (HNF.out E HNE.out.2.2.1.1).1 (HNF.out E HNE.out.2.2.1.1).2)).trans HE8.out
            have c4 : W2.cell? ⟨E, 0, none⟩ = some (.int .i64 0) := blk_cell he2
            have f4 : W2.frozen? ⟨E, 0, none⟩ = false := blk_frozen he2
            have kE : Ch (fun i => i = E) W2 (W2.setCell ⟨E, 0, none⟩ (.int .i64 Ew)) := (Ch.refl (fun i => i = E) W2).setCell (p := ⟨E, 0, none⟩) (Or.inl rfl) _
            have HF1 : Hid (KeepsFrom w8.heap.size W (W2.setCell ⟨E, 0, none⟩ (.int .i64 Ew)) ∧ ((Code.ret = Code.ret ∧ (apL o B ⟨d, x, 0⟩ ((pre ++ [y]).map Fin.val)).e ≠ 0) ∧ (ApI base p d R w (apL o B ⟨d, x, 0⟩ ((pre ++ [y]).map Fin.val)) (W2.setCell ⟨E, 0, none⟩ (.int .i64 Ew)) ∧ (W2.setCell ⟨E, 0, none⟩ (.int .i64 Ew)).heap[E]? = some (.cells #[.int .i64 (apL o B ⟨d, x, 0⟩ ((pre ++ [y]).map Fin.val)).e] 28 (0, 0))))) := Lib.hid (by
              rw [HNX.out]
              exact ⟨HK1.out.trans (keeps_ch kE fun i e => by rw [e]; exact HNE.out.2.2.1.2), ⟨rfl, hE0⟩, HI2.out.set HCW.out kE HNE.out.2.2.1.1 HNE.out.2.2.1.2 (HNF.out E HNE.out.2.2.1.1).1 (HNF.out E HNE.out.2.2.1.1).2, blk_set (i := 0) he2 _⟩)
            clear he2 kE
            go_wp2
            gi_wp2
            exact ⟨HF1.out.1, ⟨rfl, HF1.out.2.1.2⟩, HF1.out.2.2⟩
        case done =>
          rintro D xs W hD hxs ⟨he0, hI⟩ hK
          rw [hxs, ← HAPP.out] at he0 hI
          have he2 := (hI.ch.block E HNE.out.2.2.1.2 (fun hf => hf.elim (HNF.out E HNE.out.2.2.1.1).1 (HNF.out E HNE.out.2.2.1.1).2)).trans HE8.out
          have c4 : W.cell? ⟨E, 0, none⟩ = some (.int .i64 0) := blk_cell he2
          have f4 : W.frozen? ⟨E, 0, none⟩ = false := blk_frozen he2
          obtain ⟨W3, hW3⟩ : ∃ W3, W3 = W.setCell ⟨E, 0, none⟩ (.int .i64 0) := ⟨_, rfl⟩
          have kE : Ch (fun i => i = E) W W3 := by rw [hW3]; exact (Ch.refl (fun i => i = E) W).setCell (p := ⟨E, 0, none⟩) (Or.inl rfl) _
          have hDE : D ≠ E := by have := HNE.out.2.2.1.2; omega
          have hK3 : W3.heap[D]? = some (.deferred (some [])) := (kE.block D (Array.getElem?_eq_some_iff.1 hK).1 hDE).trans hK
          have hE3 : W3.heap[E]? = some (.cells #[.int .i64 0] 28 (0, 0)) := by rw [hW3]; exact blk_set (i := 0) he2 _
          have hI3 := hI.set HCW.out kE HNE.out.2.2.1.1 HNE.out.2.2.1.2 (HNF.out E HNE.out.2.2.1.1).1 (HNF.out E HNE.out.2.2.1.1).2
          have hI4 := hI3.grown (grownBy_putObj' W3 D (.deferred none)) fun r e => by
            injection e with e
            subst e
            exact ⟨Nat.le_trans HCW.out.size hD, _, hK3, rfl⟩
          have hE4 : (W3.putObj D (.deferred none)).heap[E]? = some (.cells #[.int .i64 0] 28 (0, 0)) := (World.putObj_heap_other (fun e => hDE e.symm)).trans hE3
          have HFIN : Hid (ApPost base p d R x B w (.returned (.int .i64 0)) (W3.putObj D (.deferred none))) := Lib.hid ⟨by rw [he0], hI4⟩
          have HK3 := Lib.hid hK3
          have HE4 := Lib.hid hE4
          have HW3 := Lib.hid hW3
          clear he0 hI he2 hW3 kE hDE hK3 hE3 hI3 hI4 hE4 hK hD hxs
          gi_wp2
          rw [← HW3.out]
          refine ⟨by simp, .inl ⟨_, _, rfl, run_takeDeferred HK3.out, ?_⟩⟩
          exact ⟨_, results_err Tryz.results35 _ _ E 0 rfl (blk_cell HE4.out), HFIN.out⟩
        case stop =>
          rintro D c pre W hD ⟨k, hk, hpre⟩ ⟨⟨hc, hne⟩, hI, hE⟩ hK
          subst hc
          rw [hpre] at hne hI hE
          rw [← apL_cut hk hne, ← HAPP.out] at hI hE
          have hDE : D ≠ E := by have := HNE.out.2.2.1.2; omega
          have hI4 := hI.grown (grownBy_putObj' W D (.deferred none)) fun r e => by
            injection e with e
            subst e
            exact ⟨Nat.le_trans HCW.out.size hD, _, hK, rfl⟩
          have hE4 := (World.putObj_heap_other (w := W) (o := .deferred none) (fun e => hDE e.symm)).trans hE
          have HFIN : Hid (ApPost base p d R x B w (.returned (.int .i64 (appS x B d).e)) (W.putObj D (.deferred none))) := Lib.hid ⟨rfl, hI4⟩
          have HE4 := Lib.hid hE4
          clear hI hE hDE hI4 hE4 hne
          gi_wp2
          refine ⟨by simp, .inl ⟨_, _, rfl, run_takeDeferred hK, ?_⟩⟩
          exact ⟨_, results_err Tryz.results35 _ _ E _ rfl (blk_cell HE4.out), HFIN.out⟩
end Go.Proofs.YteleknojohnlbaaGreat
