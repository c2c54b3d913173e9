/-
  ring.Follow: the range over what is taken, and the tail. FolI, FolIx = how its rounds stand; wpIn_round_lit = a plain region within a round.
-/
import Derived.Test.YteleknojohnlbaaGreatMc28
import Derived.Test.YteleknojohnlbaaGreatMc30
namespace Go.Proofs.YteleknojohnlbaaGreat
open Go.RowKit
set_option linter.unusedVariables false
set_option maxRecDepth 100000
set_option linter.unusedSimpArgs false
attribute [local go_sem] Oper.semAt_some wide_fn wide_depth
theorem wpIn_round_lit {P : Program} {Q : Exit → Act → World → Prop} {id l n : Nat} {a : Act} {w : World} {L : List Oper} (hnd : noDefer L.toArray = true) (hq : ¬ LetsOut Q) (h : wpList P L.toArray Q L a w) : (Code.region id L.toArray false).wpIn (Fence.wide.inRound l) n P Q a w :=
  wpIn_region (opsIn_of hnd hq _ a w (by rw [List.range_eq_range', ← Array.length_toList, wpOps_eq_wpList L 0 (by simp)]; exact h))
theorem results_fol {fn : Func} {p q : Tmp} (h : fn.results = #[.cell p 40, .cell q 28]) (tmps : Array Value) (w : World) (H E : Nat) (t : Tl) (ep : Int) (v : Value) (e : Int) (hp : tmps.getD p undef = .pointer (some ⟨H, 0, none⟩)) (hq : tmps.getD q undef = .pointer (some ⟨E, 0, none⟩))
    (hg : w.heap[H]? = some (.cells (tlC t ep v) 40 (0, 0))) (he : w.cell? ⟨E, 0, none⟩ = some (.int .i64 e)) : (results fn tmps).run Tryz.prog w = .ok (.tuple #[.agg (tlC t ep v), .int .i64 e]) w := by
  simp only [Array.getD_eq_getD_getElem?] at hp hq
  have c0 : w.cell? ⟨H, 0, none⟩ = some v := blk_cell hg
  have c1 : w.cell? ⟨H, 1, none⟩ = some (.int .i64 t.next) := blk_cell hg
  have c2 : w.cell? ⟨H, 2, none⟩ = some (.int .i64 t.chain) := blk_cell hg
  have c3 : w.cell? ⟨H, 3, none⟩ = some (.int .i64 ep) := blk_cell hg
  simp [results, h, go_sem, hp, hq, asAddr, c0, c1, c2, c3, he]
  rfl
theorem keeps_ch {S : Nat → Prop} {B : Nat} {W W' : World} (h : Ch S W W') (hS : ∀ i, S i → i < B) : KeepsFrom B W W' :=
  ⟨h.size, fun k o hB hk _ => (h.block k (Array.getElem?_eq_some_iff.1 hk).1 (fun s => by have := hS k s; omega)).trans hk⟩
theorem kp_ch {n0 X N : Nat} {W W' : World} (h : Ch (fun i => i = X ∨ N < i) W W') (hX : n0 ≤ X) (hN : n0 ≤ N) (hW : N < W.heap.size) : KpI n0 X N W W' :=
  ⟨h.os, h.tape, h.output, h.size, fun i hi => h.block i (by omega) (by omega), fun i c t f hi hx hc => (h.block i (by omega) (by omega)).trans hc⟩
structure FolI (m : Mi) (wB w : World) (X : Nat) (pre : List (Lk × Int)) (W : World) : Prop where
  ok : ∀ y ∈ pre, y.2 = 0 ∧ LkOk m y.1
  own : ∃ v, W.heap[X]? = some (.cells #[v] 95 (0, 0)) ∧ RwO kdL elL wB W v (pre.map Prod.fst)
  ch : Ch (fun i => i = X) w W
structure FolX (w : World) (X T E : Nat) (c : Code) (pre : List (Lk × Int)) (W : World) : Prop where
  isRet : c = .ret
  bad : ∃ y ∈ pre, y.2 ≠ 0
  t : W.heap[T]? = some (.cells (tlC tl0 0 (.slice none 0 0)) 40 (0, 0))
  e : W.heap[E]? = some (.cells #[.int .i64 22] 28 (0, 0))
  ch : Ch (fun i => i = X ∨ (i = T ∨ i = E)) w W
theorem row_ch {W W' : World} {row : Option Nat} (hg : W.grownBy W' row) : Ch (fun i => row = some i) W W' := (Ch.refl _ W).grown hg fun i e => Or.inl e
theorem folI_own {m : Mi} {wB w : World} {X : Nat} (hX : X < w.heap.size) (hB : wB.heap.size = w.heap.size + 2 + 1) : OwnX w.heap.size (w.heap.size + 2) (FolI m wB w X) := by
  intro pre W W' row h hg hr
  have lo : ∀ i, row = some i → w.heap.size ≤ i := fun i e => (hr i e).elim (fun q => q.1) (fun q => by omega)
  obtain ⟨v, h1, h2⟩ := h.own
  refine ⟨h.ok, ⟨v, ((row_ch hg).block X (blk_lt h1) (fun e => by have := lo X e; omega)).trans h1, h2.ch (row_ch hg) fun i e hi => ?_⟩, h.ch.grown hg fun i e => Or.inr (lo i e)⟩
  rcases hr i e with ⟨_, o, ho, hc⟩ | q
  · refine ⟨fun ⟨c, hx⟩ => ?_, fun ⟨c, hx⟩ => ?_⟩ <;> (rw [hx] at ho; cases ho; cases hc)
  · omega
theorem folX_own {w : World} {X T E : Nat} (hT : T < w.heap.size) (hE : E < w.heap.size) (c : Code) : OwnX w.heap.size (w.heap.size + 2) (FolX w X T E c) := by
  intro pre W W' row h hg hr
  have lo : ∀ i, row = some i → w.heap.size ≤ i := fun i e => (hr i e).elim (fun q => q.1) (fun q => by omega)
  exact ⟨h.isRet, h.bad, ((row_ch hg).block T (blk_lt h.t) (fun e => by have := lo T e; omega)).trans h.t, ((row_ch hg).block E (blk_lt h.e) (fun e => by have := lo E e; omega)).trans h.e, h.ch.grown hg fun i e => Or.inr (lo i e)⟩
theorem gv_own {m : Mi} {wB w : World} (hB : wB.heap.size = w.heap.size + 2 + 1) (x : Lk × Int) : OwnFrom w.heap.size (fun (_ : Unit) V => GvI m wB (w.heap.size + 2) x V) := by
  intro _ W W' row h hg hr
  obtain ⟨h1, h2, h3, h4⟩ := h
  refine ⟨Nat.lt_of_lt_of_le h1 hg.size, h2, h3, fun e => ⟨(h4 e).1, (h4 e).2.ch (row_ch hg) fun i e2 hi => ?_⟩⟩
  obtain ⟨_, o, ho, hc⟩ := hr i e2
  rintro ⟨c, hx⟩
  rw [hx] at ho; cases ho; cases hc
theorem FolI.gr {m : Mi} {wB w W W' : World} {X : Nat} {pre : List (Lk × Int)} (h : FolI m wB w X pre W) (k : Ch (fun _ => False) W W') : FolI m wB w X pre W' := by
  obtain ⟨v, h1, h2⟩ := h.own
  exact ⟨h.ok, ⟨v, (k.block X (blk_lt h1) (fun f => f)).trans h1, h2.gr k⟩, h.ch.trans (k.mono fun _ _ f => f.elim)⟩
theorem zip2 (p q : Tmp) (x : Lk × Int) (t : Array Value) : ((#[p, q] : Array Tmp).zip (encI x)).foldl (fun t (p, v) => t.setIfInBounds p v) t = (t.setIfInBounds p (.agg (lkC x.1))).setIfInBounds q (.int .i64 x.2) := by
  simp [encI]
theorem built_tl0 (w : World) : (Instr.build 40 #[]).run Tryz.prog w = .ok (.agg (tlC tl0 0 (.slice none 0 0))) w := run_build w _ _ _ (by kernel_rfl)
theorem ch_then {S T : Nat → Prop} {a b c : World} (h : Ch S a b) (k : Ch T b c) (hT : ∀ i, T i → S i ∨ a.heap.size ≤ i) : Ch S a c :=
  ⟨k.os.trans h.os, k.tape.trans h.tape, k.output.trans h.output, Nat.le_trans h.size k.size, fun i hi hS => (k.block i (Nat.lt_of_lt_of_le hi h.size) (fun t => (hT i t).elim hS (fun q => by omega))).trans (h.block i hi hS)⟩
theorem own_low {w : World} {base n k : Nat} {e : TypeId} {v : Value} {xs : List Value} (h : w.ownsRow base e k v n xs) : ∀ i, v.ownBlock = some i → base ≤ i := fun i q => by
  rcases h.2 with ⟨rfl, _⟩ | ⟨g, cap, cur, rfl, hb, _⟩
  · cases q
  · injection q with q; rw [← q]; exact hb
theorem own_cells {w : World} {base n k : Nat} {e : TypeId} {v : Value} {xs : List Value} (h : w.ownsRow base e k v n xs) : ∀ i, v.ownBlock = some i → ∃ c, w.heap[i]? = some (.cells c e (0, 0)) := fun i q => by
  rcases h.2 with ⟨rfl, _⟩ | ⟨g, cap, cur, rfl, hb, hg, _⟩
  · cases q
  · injection q with q; exact ⟨cur, by rw [← q]; exact hg⟩
theorem run_len (m : Mi) : ∀ (f : Nat) (a : Pn) (s : Int) (k : Nat), (runR m f a s k).1.length ≤ f
  | 0, _, _, _ => Nat.le_refl 0
  | f + 1, a, s, k => by
    cases h : (cdM m k).find? (fitsP a s) with
    | none => rw [run_none h]; exact Nat.zero_le _
    | some p => rw [run_some h]; exact Nat.succ_le_succ (run_len m f p (sumM m p) (k + 1))
theorem RwO.low {α : Type} {K : Kd} {E : El α} {w0 w wr : World} {v : Value} {L : List α} (h : RwO K E w wr v L) (k : w0.heap.size ≤ w.heap.size) : RwO K E w0 wr v L :=
  ⟨⟨h.own.1, h.own.2.imp id fun ⟨g, cap, cur, e, hb, r⟩ => ⟨g, cap, cur, e, Nat.le_trans k hb, r⟩⟩, h.ok, fun x hx => (h.rows x hx).low k⟩
theorem size_mi : (Tryz.prog.info? 94).map (·.size) = some 7 := by kernel_rfl
def miZ : Array Value := #[.int .i64 0, .int .i64 0, .int .i64 0, .int .i64 0, .int .i64 0, .slice none 0 0, .slice none 0 0]
theorem zero_mi (w : World) : (zeroValue 94).run Tryz.prog w = .ok (.agg miZ) w := by kernel_rfl
theorem built_ss (A B : Option Addr) (n k C D : Nat) (w : World) : (Instr.build 92 #[(0, .slice A n C), (1, .slice B k D)]).run Tryz.prog w = .ok (.agg #[.slice A n C, .slice B k D]) w := run_build w _ _ _ (by kernel_rfl)
theorem built_mi (m : Mi) (w : World) : (Instr.build 94 #[(0, .int .i64 m.vol), (1, .agg (geC m.g.ge)), (2, .agg #[.slice (m.A 0) m.g.W (m.C 0), .slice (m.A 1) m.g.W (m.C 1)])]).run Tryz.prog w = .ok (.agg (miC m)) w := run_build w _ _ _ (by kernel_rfl)
theorem varMi (m : Mi) (w : World) : ∃ wz wx H, VarR w wz wx H miZ (miC m) 94 :=
  ⟨_, w.alloc (.cells (miC m) 94), w.heap.size, rfl, rfl, run_storeVar_new (P := Tryz.prog) w _ _ _ size_mi rfl (by simp [miC, Value.oneCell']), heap_alloc_new _ _, (Ch.refl _ w).alloc _ _⟩
def FolPost (m : Mi) (start : Nat) (chain : Int) (w : World) (e : Ending) (w' : World) : Prop :=
  ∃ V, e = .returned (.tuple #[V, .int .i64 (if (allI m start chain).2 then 22 else 0)]) ∧ TailV w w' (if (allI m start chain).2 then tl0 else tailR (sumM m) (allI m start chain).1 start chain) (if (allI m start chain).2 then 0 else epR (allI m start chain).1) V ∧ Ch (fun _ => False) w w'
def wordsF (vol start chain : Int) : Nat → Int := fun i => if i = 0 then vol else if i = 1 then start else chain
set_option maxHeartbeats 25600000 in
theorem rfollow_yes (m : Mi) (start : Nat) (chain : Int) (w : World) (h : MiIs w m) (hst : start ≤ 4294967295) (hch : 0 ≤ chain ∧ chain ≤ 4294967295) :
    Calls Tryz.prog 21 #[.slice (m.A 0) m.g.W (m.C 0), .slice (m.A 1) m.g.W (m.C 1), .int .i64 m.vol, .agg (geC m.g.ge), .int .i64 (start : Int), .int .i64 chain] w (FolPost m start chain w) := by
  obtain ⟨w1, G, hG⟩ := geR w m.g.ge
  obtain ⟨w2, T, hT⟩ := boxR w1 (tlC tl0 0 (.slice none 0 0)) 40
  have HG := Lib.hid hG
  have HT := Lib.hid hT
  have HM := Lib.hid h
  have HST := Lib.hid hst
  have HCH := Lib.hid hch
  clear hG hT h hst hch
  refine (callsIn_wide (n := 9)).1 ?_
  refine callsIn_of_wp_marks Tryz.func21 rfl trivial ?_ rfl
  simp only [Tryz.ntmps21, List.size_toArray, List.length_cons, List.length_nil, Nat.reduceAdd, Nat.reduceSub, Array.replicate_succ, Array.replicate_zero, List.push_toArray, List.append_toArray, List.nil_append, List.cons_append]
  gi_upto_region 0 with fail
  refine wpIn_wide.2 ?_
  go_wp2_with (first
    | ((with_reducible refine wpList_isOp (.box 23 (.tmp 3)) rfl ?_); refine wpList_boxing _ w1 rfl 23 (.tmp 3) rfl (geC m.g.ge) G rfl (by exact HG.out.sz) (by exact HG.out.al) ?_)
    | ((with_reducible refine wpList_isOp (.alloc 40) rfl ?_); refine wpList_making _ w2 rfl 40 rfl (tlC tl0 0 (.slice none 0 0)) T (zero_tl _) (by exact HT.out.sz) (by exact HT.out.al) ?_)
    | fail)
  obtain ⟨w3, hw3⟩ : ∃ w3, w3 = w2.alloc (.cells #[.int .i64 0] 28) := ⟨_, rfl⟩
  rw [← hw3]
  obtain ⟨E, hE⟩ : ∃ E, E = w2.heap.size := ⟨_, rfl⟩
  rw [← hE]
  have HE3 : Hid (w3.heap[E]? = some (.cells #[.int .i64 0] 28 (0, 0)) ∧ w2.heap.size = E ∧ Ch (fun _ => False) w2 w3) := Lib.hid ⟨by rw [hw3, hE]; exact heap_alloc_new _ _, hE.symm, by rw [hw3]; exact (Ch.refl _ w2).alloc _ _⟩
  clear hw3 hE
  obtain ⟨x0, x1, x2, x3⟩ := (HG.out.x.gr HT.out.ch).gr HE3.out.2.2
  gi_upto_region 1 with fail
  refine wpIn_wide.2 ?_
  go_wp2_with fail
  refine (gmay_any m.g.ge _).mono ?_
  rintro e w4 ⟨rfl, hc4⟩
  rw [ok_may HM.out.ok]
  obtain ⟨y0, y1, y2, y3⟩ := ((HG.out.x.gr HT.out.ch).gr HE3.out.2.2).gr hc4
  have HC4 := Lib.hid hc4
  have hA0 : True := trivial
  clear hc4 x0 x1 x2 x3
  obtain ⟨w5, hw5⟩ : ∃ w5, w5 = w4.alloc (.cells #[.int .i64 m.vol, .int .i64 (start : Int), .int .i64 chain] 3) := ⟨_, rfl⟩
  have HW5 := Lib.hid hw5
  have HAW := Lib.hid (rareWords_any w4.heap.size 3 (wordsF m.vol start chain) w5 (by omega) (fun i hi => by
    rw [hw5]
    match i, hi with
    | 0, _ => exact blk_cell (heap_alloc_new _ _)
    | 1, _ => exact blk_cell (heap_alloc_new _ _)
    | 2, _ => exact blk_cell (heap_alloc_new _ _)))
  have hww : wordsTo (wordsF m.vol start chain) 3 = true := by
    have h1 := HM.out.vol
    have h2 := HST.out
    have h3 := HCH.out
    simp [wordsTo, wordsF, wordB]
    omega
  clear hw5
  go_wp2_with fail
  rw [← HW5.out]
  refine HAW.out.mono ?_
  rintro e w6 ⟨rfl, rfl⟩
  rw [hww]
  have HC5 := Lib.hid (show Ch (fun _ => False) w4 w5 by rw [HW5.out]; exact (Ch.refl _ w4).alloc _ _)
  obtain ⟨x0, x1, x2, x3⟩ := (((HG.out.x.gr HT.out.ch).gr HE3.out.2.2).gr HC4.out).gr HC5.out
  have x0 : w5.cell? ⟨G, 0, none⟩ = some (.int .i64 (m.g.W : Int)) := x0
  clear y0 y1 y2 y3 hww HAW
  obtain ⟨wz, w6, D, hV⟩ := varMi m w5
  have HV := Lib.hid hV
  have HLM := Lib.hid (load_mi hV.cx)
  have HB1 := Lib.hid (built_ss (m.A 0) (m.A 1) m.g.W m.g.W (m.C 0) (m.C 1) w5)
  have HB2 := Lib.hid (built_mi m w5)
  clear hV
  go_wp2_with fail
  gi_upto_region 3 with fail
  refine wpIn_wide.2 ?_
  go_wp2_with (first
    | ((with_reducible refine wpList_isOp (.build 92 #[(0, .tmp 46), (1, .tmp 47)]) rfl ?_); refine wpList_building _ rfl 92 #[(0, .tmp 46), (1, .tmp 47)] rfl _ (by exact HB1.out) ?_)
    | ((with_reducible refine wpList_isOp (.build 94 #[(0, .tmp 44), (1, .tmp 45), (2, .tmp 48)]) rfl ?_); refine wpList_building _ rfl 94 #[(0, .tmp 44), (1, .tmp 45), (2, .tmp 48)] rfl _ (by exact HB2.out) ?_)
    | ((with_reducible refine wpList_isOp (.alloc 94) rfl ?_); refine wpList_making _ wz rfl 94 rfl (miZ) D (zero_mi _) (by exact HV.out.sz) (by exact HV.out.al) ?_)
    | ((with_reducible refine wpList_isOp (.store 94 (.tmp 14) (.tmp 49)) rfl ?_); refine wpList_storing _ w6 rfl 94 (.tmp 14) (.tmp 49) rfl (.agg (miC m)) ⟨D, 0, none⟩ rfl rfl (by exact HV.out.st) ?_)
    | fail)
  gi_upto_region 5 with fail
  obtain ⟨X, hX⟩ : ∃ X, X = w6.heap.size := ⟨_, rfl⟩
  obtain ⟨w7, hw7⟩ : ∃ w7, w7 = w6.alloc (.cells #[.slice none 0 0] 95) := ⟨_, rfl⟩
  rw [← hX, ← hw7]
  have HX7 : Hid (w7.heap[X]? = some (.cells #[.slice none 0 0] 95 (0, 0)) ∧ w6.heap.size = X ∧ Ch (fun _ => False) w6 w7) := Lib.hid ⟨by rw [hw7, hX]; exact heap_alloc_new _ _, hX.symm, by rw [hw7]; exact (Ch.refl _ w6).alloc _ _⟩
  have HLM7 := Lib.hid (load_mi ((HX7.out.2.2.block D (blk_lt HV.out.cx) (fun f => f)).trans HV.out.cx))
  clear hX hw7
  refine wpIn_wide.2 ?_
  go_wp2_with (first
    | ((with_reducible refine wpList_isOp (.load 94 (.tmp 14)) rfl ?_); refine wpList_loading _ rfl 94 (.tmp 14) rfl (.agg (miC m)) ⟨D, 0, none⟩ rfl (by exact HLM7.out) ?_)
    | fail)
  refine (rlinks_any m start chain w7).mono ?_
  rintro e w8 ⟨H, Bs, Bc, rfl, hLB⟩
  have HLB := Lib.hid hLB
  have hC07 : Ch (fun _ => False) w w7 := ((((((HG.out.ch.trans HT.out.ch).trans HE3.out.2.2).trans HC4.out).trans HC5.out).trans HV.out.ch).trans HX7.out.2.2)
  have HC8 := Lib.hid (hC07.trans hLB.ch)
  have HT8 : Hid (w8.heap[T]? = some (.cells (tlC tl0 0 (.slice none 0 0)) 40 (0, 0))) := Lib.hid (by
    have k : Ch (fun _ => False) w2 w8 := (((((HE3.out.2.2).trans HC4.out).trans HC5.out).trans HV.out.ch).trans HX7.out.2.2).trans hLB.ch
    exact (k.block T (blk_lt HT.out.cx) (fun f => f)).trans HT.out.cx)
  have HE8 : Hid (w8.heap[E]? = some (.cells #[.int .i64 0] 28 (0, 0))) := Lib.hid (by
    have k : Ch (fun _ => False) w3 w8 := ((((HC4.out).trans HC5.out).trans HV.out.ch).trans HX7.out.2.2).trans hLB.ch
    exact (k.block E (blk_lt HE3.out.1) (fun f => f)).trans HE3.out.1)
  have HX8 : Hid (w8.heap[X]? = some (.cells #[.slice none 0 0] 95 (0, 0))) := Lib.hid ((hLB.ch.block X (blk_lt HX7.out.1) (fun f => f)).trans HX7.out.1)
  have HNE : Hid (T ≠ E ∧ T ≠ X ∧ E ≠ X ∧ X < w8.heap.size ∧ w.heap.size ≤ T ∧ w.heap.size ≤ E ∧ w.heap.size ≤ X ∧ (H ≠ X ∧ Bs ≠ X ∧ Bc ≠ X)) := Lib.hid (by
    have a1 := HT.out.sz
    have a2 := HE3.out.2.1
    have a3 := HX7.out.2.1
    have a4 := HG.out.ch.size
    have a5 := blk_lt HT.out.cx
    have a6 := blk_lt HE3.out.1
    have a7 := blk_lt HX7.out.1
    have a8 := (((HC4.out).trans HC5.out).trans HV.out.ch).size
    have a9 := hLB.lo
    have b1 := HX7.out.2.2.size
    have b2 := hLB.ch.size
    have b3 := HE3.out.2.2.size
    have b4 := HT.out.ch.size
    refine ⟨by omega, by omega, by omega, by omega, by omega, by omega, by omega, by omega, by omega, by omega⟩)
  obtain ⟨wB, hB⟩ : ∃ wB : World, wB.heap.size = w8.heap.size + 2 + 1 := ⟨((w8.alloc (.cells #[] /-t-/5)).alloc (.cells #[] /-t-/5)).alloc (.cells #[] /-t-/5), by simp⟩
  clear hLB hC07 x0 x1 x2 x3 HB1 HB2 HLM7 HLM HV HC4 HC5 HW5 HX7 HE3 HT HG
  go_wp2
  gi_wp2
  refine wpIn_rangeFunc_given (ps := #[54, 55]) (F := Fence.wide) (n := 9) (P := Tryz.prog) (encs := encI) (Kp := KpI w.heap.size X (w8.heap.size + 2)) (Gv := GvI m wB (w8.heap.size + 2)) (S := SI m start chain) (Sp := SpI m start chain) (N := m.g.W) (w0 := w8) rfl (by decide) (gf := 89) (lb := #[.pointer (some ⟨Bc, 0, none⟩), .pointer (some ⟨Bs, 0, none⟩), .pointer (some ⟨H, 0, none⟩)]) rfl trivial (enters_of Tryz.func89 (by kernel_rfl) rfl)
    (links_given 8 (by omega) m w wB w8 start chain H Bs Bc X (w8.heap.size + 2) HM.out HST.out hB HC8.out HLB.out.hH HLB.out.hs HLB.out.hc ⟨HNE.out.2.2.2.2.2.2.2.1, HNE.out.2.2.2.2.2.2.2.2.1, HNE.out.2.2.2.2.2.2.2.2.2, by have := HNE.out; omega⟩ (by omega))
    (fun h k => h.trans k) (fun W l o o' hl ho hc _ => KpI.put (by have := HC8.out.size; omega) ho hc) (Below.refl _ _) (fun _ => rfl)
    (fun x => gv_own hB x) (FolI m wB w8 X) (fun c pre W => FolX w8 X T E c pre W) (folI_own HNE.out.2.2.2.1 hB) (fun c => folX_own (blk_lt HT8.out) (blk_lt HE8.out) c)
    ⟨fun _ hy => by simp at hy, ⟨_, HX8.out, RwO.start _ _ _ _⟩, Ch.refl _ _⟩ ?round ?done ?stop
  case round =>
    rintro l pre ⟨y, er⟩ W hI ⟨hN, hSV, h02, hok⟩ hlen
    obtain ⟨Wz, W1, Gk, hV1⟩ := varLk y hSV W
    have HV1 := Lib.hid hV1
    have HOK := Lib.hid hok
    have HI := Lib.hid hI
    have HN := Lib.hid hN
    have HSV := Lib.hid hSV
    have H02 := Lib.hid h02
    have HPL := Lib.hid hlen
    clear hV1 hok hI hN hlen hSV h02
    rw [zip2]
    simp only [List.setIfInBounds_toArray, List.set_cons_zero, List.set_cons_succ]
    gi_upto_region 6 with fail
    refine wpIn_round_lit (by kernel_rfl) (fun ⟨_, _, h⟩ => h) ?_
    go_wp2_with (first
      | ((with_reducible refine wpList_isOp (.alloc 100) rfl ?_); refine wpList_making _ Wz rfl 100 rfl (lkC (lk0 0)) Gk (zero_lk _) (by exact HV1.out.sz) (by exact HV1.out.al) ?_)
      | ((with_reducible refine wpList_isOp (.store 100 (.tmp 16) (.tmp 54)) rfl ?_); refine wpList_storing _ W1 rfl 100 (.tmp 16) (.tmp 54) rfl (.agg (lkC y)) ⟨Gk, 0, none⟩ rfl rfl (by exact HV1.out.st) ?_)
      | fail)
    gi_wp2
    refine ⟨keeps_ch HV1.out.ch (fun _ f => f.elim), kp_ch (HV1.out.ch.mono fun _ _ f => f.elim) HNE.out.2.2.2.2.2.2.1 (by have := HC8.out.size; omega) HN.out, fun L o o' hL ho hoc how => ?_⟩
    have hI2 := (folI_own HNE.out.2.2.2.1 hB).from.putObj (l := L) o' (HI.out.gr HV1.out.ch) hL ho hoc
    have hk2 : (W1.putObj L o').heap[Gk]? = some (.cells (lkC y) 100 (0, 0)) := (World.putObj_heap_other (fun e => by
      have h1 := HV1.out.cx
      rw [e] at h1
      rw [h1] at ho; cases ho; cases hoc)).trans HV1.out.cx
    have hs2 : w8.heap.size + 2 < (W1.putObj L o').heap.size := by have h1 := HV1.out.ch.size; have h2 := HN.out; simp [World.putObj]; omega
    obtain ⟨W2, hW2⟩ : ∃ W2, W2 = W1.putObj L o' := ⟨_, rfl⟩
    rw [← hW2] at hI2 hk2 hs2 ⊢
    have hby : er = 0 → LkOk m y ∧ ByN elL wB W2 y := fun e => ⟨(HOK.out e).1, by
      have h1 : GvI m wB (w8.heap.size + 2) (y, er) W1 := ⟨Nat.lt_of_lt_of_le HN.out HV1.out.ch.size, HSV.out, H02.out, fun e => ⟨(HOK.out e).1, (HOK.out e).2.gr HV1.out.ch⟩⟩
      have h2 := (gv_own hB (y, er)).putObj (s := ()) o' h1 hL ho hoc
      rw [← hW2] at h2
      exact (h2.2.2.2 e).2⟩
    have HI2 := Lib.hid hI2
    have HK2 := Lib.hid hk2
    have HS2 := Lib.hid hs2
    have HBY := Lib.hid hby
    clear hI2 hk2 hs2 hby hW2 ho
    rcases H02.out with rfl | rfl
    · obtain ⟨v, hv1, hv2⟩ := HI2.out.own
      have hlo := own_low hv2.own
      have hcl := own_cells hv2.own
      obtain ⟨g, cap, W3, hr3, ho3, hc3⟩ := hv2.app kdL_ok (x := y) (elL_ok HSV.out) (HBY.out rfl).2 (by rw [List.length_map]; have := HPL.out; have := HM.out.ok.w2; omega) (by rw [hB]; exact HS2.out)
      have hr4 : (Builtin.append_ #[ 95, 95] 95 #[v, .slice (some ⟨W2.heap.size, 0, none⟩) 1 1]).run Tryz.prog (W2.alloc (.cells (lkC y) 100)) = .ok (.slice (some ⟨g, 0, none⟩) ((pre.map Prod.fst).length + 1) cap) W3 := hr3
      obtain ⟨nv, hnv⟩ : ∃ nv, nv = Value.slice (some ⟨g, 0, none⟩) ((pre.map Prod.fst).length + 1) cap := ⟨_, rfl⟩
      rw [← hnv] at hr4 ho3
      have hXo : ¬ v.ownBlock = some X := fun e => by have h1 := hlo X e; have h2 := HNE.out; rw [hB] at h1; omega
      have hX3 := (hc3.block X (blk_lt hv1) hXo).trans hv1
      have hX4 : (W3.setCell ⟨X, 0, none⟩ nv).heap[X]? = some (.cells #[nv] 95 (0, 0)) := blk_set (i := 0) hX3 _
      have k4 : Ch (fun i => i = X) W3 (W3.setCell ⟨X, 0, none⟩ nv) := (Ch.refl (fun i => i = X) W3).setCell (p := ⟨X, 0, none⟩) (Or.inl rfl) _
      have k24 : Ch (fun i => i = X ∨ v.ownBlock = some i) W2 (W3.setCell ⟨X, 0, none⟩ nv) := (hc3.mono fun i _ e => Or.inr e).trans (k4.mono fun i _ e => Or.inl e)
      have HFIN : Hid (KeepsFrom w8.heap.size W2 (W3.setCell ⟨X, 0, none⟩ nv) ∧ KpI w.heap.size X (w8.heap.size + 2) W2 (W3.setCell ⟨X, 0, none⟩ nv) ∧ FolI m wB w8 X (pre ++ [(y, 0)]) (W3.setCell ⟨X, 0, none⟩ nv)) := Lib.hid ⟨⟨k24.size, fun k o hk ho hoc => (k24.block k (Array.getElem?_eq_some_iff.1 ho).1 (fun q => by
          rcases q with q | q
          · have := HNE.out; omega
          · obtain ⟨c, hcc⟩ := hcl k q
            rw [hcc] at ho; cases ho; cases hoc)).trans ho⟩,
        kp_ch (k24.mono fun i _ q => q.imp id fun q => by have := hlo i q; omega) HNE.out.2.2.2.2.2.2.1 (by have := HC8.out.size; omega) HS2.out,
        fun z hz => by
          rcases List.mem_append.1 hz with q | q
          · exact HI2.out.ok z q
          · rw [List.mem_singleton.1 q]; exact ⟨rfl, (HBY.out rfl).1⟩,
        ⟨nv, hX4, by rw [List.map_append]; exact ho3.set k4 hX3 (by decide) (by decide)⟩,
        ch_then HI2.out.ch k24 fun i q => q.imp id fun q => by have := hlo i q; omega⟩
      have f1 : W2.cell? ⟨X, 0, none⟩ = some v := blk_cell hv1
      have f3 : W3.cell? ⟨X, 0, none⟩ = some v := blk_cell hX3
      have f4 : W3.frozen? ⟨X, 0, none⟩ = false := blk_frozen hX3
      have HLK := Lib.hid (load_lk HK2.out)
      obtain ⟨Ws, hWs⟩ : ∃ Ws, Ws = W2.alloc (.cells (lkC y) 100) := ⟨_, rfl⟩
      obtain ⟨Xs, hXs⟩ : ∃ Xs, Xs = W2.heap.size := ⟨_, rfl⟩
      have HSL := Lib.hid (slice_lk W2 y)
      rw [← hWs, ← hXs] at hr4 HSL
      obtain ⟨Av, Cv, hvv⟩ := hv2.len
      obtain ⟨q, hq⟩ : ∃ q, q = (pre.map Prod.fst).length := ⟨_, rfl⟩
      rw [← hq] at hvv hnv
      obtain ⟨q1, hq1⟩ : ∃ q1, q1 = q + 1 := ⟨_, rfl⟩
      rw [← hq1] at hnv
      rw [hvv] at hr4 f1 f3
      rw [hnv] at hr4 HFIN
      have HAP := Lib.hid hr4
      clear hv1 hv2 hr3 hr4 ho3 hc3 hX3 hX4 k4 k24 hlo hcl hXo hWs hXs hq1 hq hvv hnv v nv
      gi_upto_region 10 with fail
      refine wpIn_round_lit (by kernel_rfl) (fun ⟨_, _, h⟩ => h) ?_
      go_wp2_with (first
        | ((with_reducible refine wpList_isOp (.load 100 (.tmp 16)) rfl ?_); refine wpList_loading _ rfl 100 (.tmp 16) rfl (.agg (lkC y)) ⟨Gk, 0, none⟩ rfl (by exact HLK.out) ?_)
        | ((with_reducible refine wpList_isOp (.buildSlice 95 1 #[(0, .tmp 61)]) rfl ?_); refine wpList_slicing1 _ Ws rfl 95 0 1 (.tmp 61) rfl (.agg (lkC y)) (.slice (some ⟨Xs, 0, none⟩) 1 1) rfl (by exact HSL.out) ?_)
        | ((with_reducible refine wpList_isOp (.call { callee := .builtin .append, args := #[.tmp 60, .tmp 62], argTypes := #[ 95, 95] }) rfl ?_); refine wpList_appK_of 95 _ rfl (.tmp 60) (.tmp 62) rfl rfl (.slice Av q Cv) (.slice (some ⟨Xs, 0, none⟩) 1 1) (.slice (some ⟨g, 0, none⟩) q1 cap) W3 rfl rfl (by exact HAP.out) ?_)
        | fail)
      exact HFIN.out
    · have t2 : W2.heap[T]? = some (.cells (tlC tl0 0 (.slice none 0 0)) 40 (0, 0)) := (HI2.out.ch.block T (blk_lt HT8.out) (by have := HNE.out; omega)).trans HT8.out
      have e2 : W2.heap[E]? = some (.cells #[.int .i64 0] 28 (0, 0)) := (HI2.out.ch.block E (blk_lt HE8.out) (by have := HNE.out; omega)).trans HE8.out
      obtain ⟨W3, h3⟩ := stTl tl0 0 t2 slV_nil
      have e3 := (h3.ch.block E (blk_lt e2) (by have := HNE.out; omega)).trans e2
      have e4 : (W3.setCell ⟨E, 0, none⟩ (.int .i64 22)).heap[E]? = some (.cells #[.int .i64 22] 28 (0, 0)) := blk_set (i := 0) e3 _
      have k4 : Ch (fun i => i = E) W3 (W3.setCell ⟨E, 0, none⟩ (.int .i64 22)) := (Ch.refl (fun i => i = E) W3).setCell (p := ⟨E, 0, none⟩) (Or.inl rfl) _
      have k24 : Ch (fun i => i = T ∨ i = E) W2 (W3.setCell ⟨E, 0, none⟩ (.int .i64 22)) := (h3.ch.mono fun i _ e => Or.inl e).trans (k4.mono fun i _ e => Or.inr e)
      have HFIN : Hid (KeepsFrom w8.heap.size W2 (W3.setCell ⟨E, 0, none⟩ (.int .i64 22)) ∧ FolX w8 X T E .ret (pre ++ [(y, 22)]) (W3.setCell ⟨E, 0, none⟩ (.int .i64 22))) := Lib.hid ⟨keeps_ch k24 (fun i q => by
          rcases q with q | q
          · rw [q]; exact blk_lt HT8.out
          · rw [q]; exact blk_lt HE8.out),
        rfl, ⟨_, List.mem_append_right _ (List.mem_singleton.2 rfl), (show (22 : Int) ≠ 0 by decide)⟩, (k4.block T (blk_lt h3.cx) (by have := HNE.out; omega)).trans h3.cx, e4, (HI2.out.ch.mono fun i _ q => Or.inl q).trans (k24.mono fun i _ q => Or.inr q)⟩
      have f3 : W3.cell? ⟨E, 0, none⟩ = some (.int .i64 0) := blk_cell e3
      have f4 : W3.frozen? ⟨E, 0, none⟩ = false := blk_frozen e3
      have HBT := Lib.hid (built_tl0 W2)
      have H3 := Lib.hid h3
      clear t2 e2 h3 e3 e4 k4 k24
      gi_upto_region 9 with fail
      refine wpIn_round_lit (by kernel_rfl) (fun ⟨_, _, h⟩ => h) ?_
      go_wp2_with (first
        | ((with_reducible refine wpList_isOp (.build 40 #[]) rfl ?_); refine wpList_building _ rfl 40 #[] rfl _ (by exact HBT.out) ?_)
        | ((with_reducible refine wpList_isOp (.store 40 (.tmp 12) (.tmp 58)) rfl ?_); refine wpList_storing _ W3 rfl 40 (.tmp 12) (.tmp 58) rfl (.agg (tlC tl0 0 (.slice none 0 0))) ⟨T, 0, none⟩ rfl rfl (by exact H3.out.st) ?_)
        | fail)
      gi_wp2
      exact HFIN.out
  case done =>
    rintro D2 ys W hD hys hI hK
    obtain ⟨v, hv1, hv2⟩ := hI.own
    obtain ⟨hr1, hr2⟩ := hys fun y hy => (hI.ok y hy).1
    obtain ⟨L, hL⟩ : ∃ L, L = ys.map Prod.fst := ⟨_, rfl⟩
    rw [← hL] at hv2
    have hP : lnP L = (allI m start chain).1 := by rw [← hr2, hL]; simp [lnP]
    have hLn : L.length ≤ 512 := by
      have h1 := run_len m m.g.W pn0 chain start
      have h2 := HM.out.ok.w2
      rw [← lnP_len, hP]
      unfold allI
      omega
    obtain ⟨Av, Cv, rfl⟩ := hv2.len
    have hrd := hv2.read (by omega)
    have hTP : ∀ w, w = W → Calls Tryz.prog 55 #[.slice Av L.length Cv, .int .i64 (start : Int), .int .i64 chain] w (TailPost (tailR (sumM m) (allI m start chain).1 start chain) (epR (allI m start chain).1) w) := by
      rintro w rfl
      rcases Nat.eq_zero_or_pos L.length with q | q
      · rw [q, ← hP, List.length_eq_zero_iff.1 q]
        exact rtail_none Av Cv _ _ _
      · rw [← hP]
        refine rtail_some Av Cv L _ _ _ _ hrd (fun x hx => ?_) (by omega) q ⟨by omega, by have := HST.out; omega⟩
        rw [hL] at hx
        obtain ⟨y, hy, rfl⟩ := List.mem_map.1 hx
        have := (hI.ok y hy).2
        exact ⟨this.ofn, this.len, this.sum⟩
    have HTP := Lib.hid (hTP W rfl)
    have HR1 := Lib.hid hr1
    have HI := Lib.hid hI
    have HK := Lib.hid hK
    have HD := Lib.hid hD
    have f1 : W.cell? ⟨X, 0, none⟩ = some (.slice Av L.length Cv) := blk_cell hv1
    obtain ⟨ln, hln⟩ : ∃ ln, ln = L.length := ⟨_, rfl⟩
    rw [← hln] at f1 HTP
    clear hv1 hv2 hr1 hr2 hP hrd hTP hI hK hys hD hln hLn
    gi_upto_region 11 with fail
    refine wpIn_wide.2 ?_
    go_wp2_with fail
    refine HTP.out.mono ?_
    rintro e Wt ⟨V, rfl, ⟨A2, C2, M, rfl, hM, hO⟩, hct⟩
    obtain ⟨tl, htl⟩ : ∃ tl, tl = tailR (sumM m) (allI m start chain).1 start chain := ⟨_, rfl⟩
    obtain ⟨ep, hep⟩ : ∃ ep, ep = epR (allI m start chain).1 := ⟨_, rfl⟩
    obtain ⟨tv, htv⟩ : ∃ tv, tv = Value.slice A2 M.length C2 := ⟨_, rfl⟩
    rw [← htl] at hM
    rw [← htl, ← hep, ← htv]
    rw [← htv] at hO
    have t2 : W.heap[T]? = some (.cells (tlC tl0 0 (.slice none 0 0)) 40 (0, 0)) := (HI.out.ch.block T (blk_lt HT8.out) (by have := HNE.out; omega)).trans HT8.out
    have e2 : W.heap[E]? = some (.cells #[.int .i64 0] 28 (0, 0)) := (HI.out.ch.block E (blk_lt HE8.out) (by have := HNE.out; omega)).trans HE8.out
    have t3 := (hct.block T (blk_lt t2) (fun f => f)).trans t2
    have e3 := (hct.block E (blk_lt e2) (fun f => f)).trans e2
    obtain ⟨W3, h3⟩ := stTl tl ep (v := tv) t3 ⟨_, _, _, htv⟩
    have e4 := (h3.ch.block E (blk_lt e3) (by have := HNE.out; omega)).trans e3
    have e5 : (W3.setCell ⟨E, 0, none⟩ (.int .i64 0)).heap[E]? = some (.cells #[.int .i64 0] 28 (0, 0)) := blk_set (i := 0) e4 _
    have k5 : Ch (fun i => i = E) W3 (W3.setCell ⟨E, 0, none⟩ (.int .i64 0)) := (Ch.refl (fun i => i = E) W3).setCell (p := ⟨E, 0, none⟩) (Or.inl rfl) _
    have t5 := (k5.block T (blk_lt h3.cx) (by have := HNE.out; omega)).trans h3.cx
    have f3 : W3.cell? ⟨E, 0, none⟩ = some (.int .i64 0) := blk_cell e4
    have f4 : W3.frozen? ⟨E, 0, none⟩ = false := blk_frozen e4
    obtain ⟨W4, hW4⟩ : ∃ W4, W4 = W3.setCell ⟨E, 0, none⟩ (.int .i64 0) := ⟨_, rfl⟩
    have HW4 := Lib.hid hW4
    rw [← hW4] at e5 k5 t5
    have hDT : D2 ≠ T ∧ D2 ≠ E := by have h1 := blk_lt HT8.out; have h2 := blk_lt HE8.out; have h3 := HD.out; exact ⟨by omega, by omega⟩
    have hK4 : W4.heap[D2]? = some (.deferred (some [])) := by
      have hk1 := (hct.block D2 (Array.getElem?_eq_some_iff.1 HK.out).1 (fun f => f)).trans HK.out
      have hk2 := (h3.ch.block D2 (Array.getElem?_eq_some_iff.1 hk1).1 hDT.1).trans hk1
      exact (k5.block D2 (Array.getElem?_eq_some_iff.1 hk2).1 hDT.2).trans hk2
    have k6 : Ch (fun i => i = D2) W4 (W4.putObj D2 (.deferred none)) := (Ch.refl (fun i => i = D2) W4).grown (grownBy_putObj' W4 D2 (.deferred none)) fun i q => Or.inl (by injection q with q; exact q.symm)
    have hO2 : RwO kdB elB w (W4.putObj D2 (.deferred none)) tv M := (((hO.low (Nat.le_trans HC8.out.size HI.out.ch.size)).set h3.ch t3 (by decide) (by decide)).set k5 e4 (by decide) (by decide)).ch k6 fun i q _ => by
      subst q
      refine ⟨fun ⟨c, hx⟩ => ?_, fun ⟨c, hx⟩ => ?_⟩ <;> (rw [hx] at hK4; cases hK4)
    have hCF : Ch (fun _ => False) w (W4.putObj D2 (.deferred none)) := ch_then HC8.out (T := fun i => i = X ∨ (i = T ∨ (i = E ∨ i = D2))) ((((HI.out.ch.mono fun i _ q => Or.inl q).trans (hct.mono fun i _ q => q.elim)).trans ((h3.ch.mono fun i _ q => Or.inr (Or.inl q)).trans (k5.mono fun i _ q => Or.inr (Or.inr (Or.inl q))))).trans (k6.mono fun i _ q => Or.inr (Or.inr (Or.inr q)))) fun i q => Or.inr (by have h1 := HNE.out; have h2 := HD.out; have h3 := HC8.out.size; omega)
    have t6 := (k6.block T (blk_lt t5) (fun q => hDT.1 q.symm)).trans t5
    have e6 := (k6.block E (blk_lt e5) (fun q => hDT.2 q.symm)).trans e5
    have HT6 := Lib.hid t6
    have HE6 := Lib.hid e6
    have HK4 := Lib.hid hK4
    have HFIN : Hid (FolPost m start chain w (.returned (.tuple #[.agg (tlC tl ep tv), .int .i64 0])) (W4.putObj D2 (.deferred none))) := Lib.hid ⟨.agg (tlC tl ep tv), by rw [HR1.out]; rfl, by rw [HR1.out]; exact ⟨A2, C2, M, by rw [htv, htl, hep]; rfl, by rw [← htl]; exact hM, by rw [← htv]; exact hO2⟩, hCF⟩
    have H3 := Lib.hid h3
    clear hM hO t2 e2 t3 e3 h3 e4 e5 k5 t5 hDT hK4 k6 hO2 hCF t6 e6 htl hep htv hct hW4
    go_wp2_with (first
      | ((with_reducible refine wpList_isOp (.store 40 (.tmp 12) (.tmp 67)) rfl ?_); refine wpList_storing _ W3 rfl 40 (.tmp 12) (.tmp 67) rfl (.agg (tlC tl ep tv)) ⟨T, 0, none⟩ rfl rfl (by exact H3.out.st) ?_)
      | fail)
    rw [← HW4.out]
    gi_wp2
    refine ⟨by simp, .inl ⟨_, _, rfl, run_takeDeferred HK4.out, ?_⟩⟩
    exact ⟨_, results_fol Tryz.results21 _ _ T E tl ep tv 0 rfl rfl HT6.out (blk_cell HE6.out), HFIN.out⟩
  case stop =>
    rintro D2 c pre W hD hsp ⟨hc, hbad, ht, he, hch⟩ hK
    subst hc
    have hb := hsp hbad
    have hx := (folX_own (c := .ret) (blk_lt HT8.out) (blk_lt HE8.out)).from.putObj (l := D2) (.deferred none) (⟨rfl, hbad, ht, he, hch⟩ : FolX w8 X T E .ret pre W) hD hK rfl
    have HX := Lib.hid hx
    have HB := Lib.hid hb
    clear hx hb hsp hbad ht he hch
    gi_wp2
    refine ⟨by simp, .inl ⟨_, _, rfl, run_takeDeferred hK, ?_⟩⟩
    exact ⟨_, results_fol Tryz.results21 _ _ T E tl0 0 (.slice none 0 0) 22 rfl rfl HX.out.t (blk_cell HX.out.e), .agg (tlC tl0 0 (.slice none 0 0)), by rw [HB.out]; rfl, by rw [HB.out]; exact ⟨none, 0, [], rfl, rfl, RwO.start _ _ _ _⟩, ch_then HC8.out HX.out.ch fun i q => Or.inr (by have := HNE.out; omega)⟩
end Go.Proofs.YteleknojohnlbaaGreat
