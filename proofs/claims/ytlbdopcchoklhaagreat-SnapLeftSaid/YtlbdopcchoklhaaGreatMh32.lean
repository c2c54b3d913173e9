/-
  slices.Chunk and slices.Collect over a row of bytes that was made: its pieces of 228 bytes; snap.cut. Rows of rows of bytes: tto be read, and of one's own. (Cut out of sup's texts.).
-/
import Derived.Test.YtlbdopcchoklhaaGreatMh31
import Derived.Lib.SliceRun
import Derived.Shelf.Abstract
import Derived.Deep.RegionHeld
import Derived.BigQuiet
import Derived.Sort.CutIn
import Derived.Test.YtlbdopcchoklhaaGreatMh29
import Derived.Test.YtlbdopcchoklhaaGreatMh9
import Derived.Deep.RegionHeld3
namespace Go.Proofs.YtlbdopcchoklhaaGreat
open Go.RowKit
set_option linter.unusedVariables false
set_option maxRecDepth 100000
set_option linter.unusedSimpArgs false
attribute [local go_sem] Oper.semAt_some wide_fn wide_depth

/-- A piece of a row. -/
def chV (g k : Nat) : Value := .slice (some ⟨g, k * 228, none⟩) 228 228
def encC (g : Nat) {N : Nat} (x : Fin N) : Array Value := #[chV g x.1]
def KpC (Bs Bn : Nat) (W W' : World) : Prop := KpX (fun i => i = Bs ∨ i = Bn) W W'
theorem chunk_any (A : Option Addr) (n C : Nat) (w : World) : Calls Tryz.prog 62 #[.slice A n C, .int .i64 228] w fun e w' => ∃ Bs Bn, e = .returned (.func (.func 102) #[] #[.pointer (some ⟨Bs, 0, none⟩), .pointer (some ⟨Bn, 0, none⟩)]) ∧ w'.heap[Bs]? = some (.cells #[.slice A n C] /-t-/24 (0, 0)) ∧ w'.heap[Bn]? = some (.cells #[.int .i64 228] /-t-/3 (0, 0)) ∧ w.heap.size ≤ Bs ∧ w.heap.size ≤ Bn ∧ Ch (fun _ => False) w w' := by
  have e1 : (w.alloc (.cells #[.slice A n C] /-t-/24)).heap.size = w.heap.size + 1 := by simp
  have h1 : (w.alloc (.cells #[.slice A n C] /-t-/24)).heap[w.heap.size]? = some (.cells #[.slice A n C] /-t-/24 (0, 0)) := heap_alloc_new _ _
  have h2 : ((w.alloc (.cells #[.slice A n C] /-t-/24)).alloc (.cells #[.int .i64 228] /-t-/3)).heap[w.heap.size + 1]? = some (.cells #[.int .i64 228] /-t-/3 (0, 0)) := by rw [← e1]; exact heap_alloc_new _ _
  have c1 := (Ch.refl (fun _ => False) (w.alloc (.cells #[.slice A n C] /-t-/24))).alloc #[.int .i64 228] /-t-/3
  have HB : Hid (((w.alloc (.cells #[.slice A n C] /-t-/24)).alloc (.cells #[.int .i64 228] /-t-/3)).heap[w.heap.size]? = some (.cells #[.slice A n C] /-t-/24 (0, 0)) ∧ ((w.alloc (.cells #[.slice A n C] /-t-/24)).alloc (.cells #[.int .i64 228] /-t-/3)).heap[w.heap.size + 1]? = some (.cells #[.int .i64 228] /-t-/3 (0, 0)) ∧ Ch (fun _ => False) w ((w.alloc (.cells #[.slice A n C] /-t-/24)).alloc (.cells #[.int .i64 228] /-t-/3))) :=
    Lib.hid ⟨(c1.block _ (blk_lt h1) (fun f => f)).trans h1, h2, ((Ch.refl _ w).alloc _ _).trans c1⟩
  clear e1 h1 h2 c1
  go_enter Tryz.func62, Tryz.ntmps62
  go_wp2
  go_ret
  exact ⟨w.heap.size, w.heap.size + 1, rfl, HB.out.1, HB.out.2.1, Nat.le_refl _, Nat.le_succ _, HB.out.2.2⟩
set_option maxHeartbeats 6400000 in
theorem chunk1_in (m : Nat) (hm : 1 ≤ m) (l Bs Bn g N : Nat) (hN : N ≤ 512) (J Jx : List (Fin N) → World → Prop) (W : World) (hJ : AbidesFrom W.heap.size J)
    (hY : ∀ pre x W, J pre W → pre.length < N → YieldAt Fence.wide (m - 1) Tryz.prog l (encC g x) W fun e W' =>
      (e = .returned (.bool true) ∧ J (pre ++ [x]) W' ∧ KpC Bs Bn W W') ∨ (e = .returned (.bool false) ∧ Jx (pre ++ [x]) W'))
    (hBs : W.heap[Bs]? = some (.cells #[.slice (some ⟨g, 0, none⟩) (N * 228) (N * 228)] /-t-/24 (0, 0))) (hBn : W.heap[Bn]? = some (.cells #[.int .i64 228] /-t-/3 (0, 0))) (h0 : J [] W) :
    CallsIn Fence.wide m Tryz.prog 102 #[.func (.yield l) #[] #[], .pointer (some ⟨Bs, 0, none⟩), .pointer (some ⟨Bn, 0, none⟩)] W fun e W' => (∃ v, e = .returned v) ∧
      ((∃ ys : List (Fin N), ys.map Fin.val = List.range N ∧ J ys W') ∨ (∃ pre : List (Fin N), (∃ k, k ≤ N ∧ pre.map Fin.val = List.range k) ∧ Jx pre W')) := by
  obtain ⟨T, hT⟩ : ∃ T, T = N * 228 := ⟨_, rfl⟩
  rw [← hT] at hBs
  have HBS := Lib.hid hBs
  have HBN := Lib.hid hBn
  have HN := Lib.hid hN
  have HT := Lib.hid hT
  have t0 : (0 : Int) ≤ (T : Int) := Int.natCast_nonneg _
  have t1 : (T : Int) ≤ 116736 := by omega
  have HSZ := Lib.hid (show W.heap.size ≤ W.heap.size from Nat.le_refl _)
  clear hBs hBn hN hT
  refine callsIn_of_wp Tryz.func102 rfl trivial ?_ rfl
  simp only [Tryz.ntmps102, List.size_toArray, List.length_cons, List.length_nil, Nat.reduceAdd, Nat.reduceSub, Array.replicate_succ, Array.replicate_zero, List.push_toArray, List.append_toArray, List.nil_append, List.cons_append]
  gi_wp2
  gi_loopw [4, 5] (fun i _ wr => ∃ (k I : Nat) (pre : List (Fin N)), i = .int .i64 (I : Int) ∧ I ≤ T ∧ Hid (I = k * 228) ∧ k ≤ N ∧ pre.map Fin.val = List.range k ∧ Hid (J pre wr) ∧ Hid (wr.heap[Bs]? = some (.cells #[.slice (some ⟨g, 0, none⟩) T T] /-t-/24 (0, 0))) ∧ Hid (wr.heap[Bn]? = some (.cells #[.int .i64 228] /-t-/3 (0, 0)))) (fun i _ _ => T - (intOf i).toNat)
  case atStart => exact ⟨0, 0, [], rfl, Nat.zero_le _, Lib.hid (Nat.zero_mul _).symm, Nat.zero_le _, rfl, Lib.hid h0, HBS, HBN⟩
  case round =>
    clear h0 HBS HBN
    obtain ⟨k, I, pre, rfl, hIT, HI, hk, hpre, HJ, HB1, HB2⟩ := hrel
    have b1 : wr.cell? ⟨Bs, 0, none⟩ = some (.slice (some ⟨g, 0, none⟩) T T) := blk_cell HB1.out
    have b2 : wr.cell? ⟨Bn, 0, none⟩ = some (.int .i64 228) := blk_cell HB2.out
    have i0 : (0 : Int) ≤ (I : Int) := Int.natCast_nonneg _
    have i1 : (I : Int) ≤ (T : Int) := by omega
    by_cases hlt : k < N
    · have HKN := Lib.hid hlt
      have hi2 : I + 228 ≤ T := by have := HI.out; have := HT.out; omega
      have i2 : (I : Int) < (T : Int) := by omega
      have i3 : (228 : Int) ≤ (T : Int) - (I : Int) := by omega
      have i4 : ¬ T = I := by omega
      have i5 : ¬ ((T : Int) - (I : Int) < 228) := by omega
      have hlen : pre.length < N := by have := congrArg List.length hpre; simp at this; omega
      have HPRE : Hid ((pre ++ [(⟨k, hlt⟩ : Fin N)]).map Fin.val = List.range (k + 1)) := Lib.hid (by rw [List.map_append, hpre, List.range_succ]; rfl)
      have HLEN := Lib.hid hlen
      clear hlen hpre hi2 hk hIT
      gi_upto_region 3 with fail
      refine wpIn_wide.2 ?_
      go_quiet (fail)
      obtain ⟨w5, hw5⟩ : ∃ w5, w5 = wr.drewN nq := ⟨_, rfl⟩
      rw [← hw5]
      have hc5 : Ch (fun _ => False) wr w5 := by rw [hw5]; exact (Ch.refl _ wr).drewN nq
      have hJ5 := hJ _ _ _ none HJ.out (grown_ch hc5) (fun _ e => by cases e)
      have HB3 := Lib.hid ((hc5.block Bs (blk_lt HB1.out) (fun f => f)).trans HB1.out)
      have HB4 := Lib.hid ((hc5.block Bn (blk_lt HB2.out) (fun f => f)).trans HB2.out)
      obtain ⟨fn, tmps, assign, body, hy, hR⟩ := hY pre ⟨k, hlt⟩ w5 hJ5 HLEN.out
      have e1 : encC g (⟨k, hlt⟩ : Fin N) = #[.slice (some ⟨g, I, none⟩) 228 228] := by unfold encC chV; rw [HI.out]
      rw [e1] at hy
      clear b1 b2 hw5 hc5 hJ5 e1
      have b1 : w5.cell? ⟨Bs, 0, none⟩ = some (.slice (some ⟨g, 0, none⟩) T T) := blk_cell HB3.out
      have b2 : w5.cell? ⟨Bn, 0, none⟩ = some (.int .i64 228) := blk_cell HB4.out
      have i6 : (I : Int) + 228 ≤ (T : Int) := by omega
      have i7 : (0 : Int) ≤ (I : Int) + 228 := by omega
      gi_wp2
      refine hR.mono ?_
      rintro e W3 (⟨rfl, hJ3, hK3⟩ | ⟨rfl, hJx3⟩)
      · have HJ3 := Lib.hid hJ3
        have HB5 := Lib.hid (hK3 _ _ _ _ (Or.inl rfl) HB3.out)
        have HB6 := Lib.hid (hK3 _ _ _ _ (Or.inr rfl) HB4.out)
        have b3 : W3.cell? ⟨Bn, 0, none⟩ = some (.int .i64 228) := blk_cell HB6.out
        clear hJ3 hK3 b1 b2
        gi_wp2
        go_roundw
        case rel => exact ⟨k + 1, I + 228, _, by simp, by omega, Lib.hid (by rw [HI.out, Nat.succ_mul]), HKN.out, HPRE.out, HJ3, HB5, HB6⟩
        case measure => simp [intOf]; omega
      · clear b1 b2
        gi_wp2
        refine bodyPost_ret (results_none rfl _ _ _) rfl ?_
        exact ⟨⟨_, rfl⟩, .inr ⟨_, ⟨k + 1, HKN.out, HPRE.out⟩, hJx3⟩⟩
    · obtain rfl : k = N := by omega
      have i2 : ¬ (I : Int) < (T : Int) := by have := HI.out; have := HT.out; omega
      clear hlt hk
      gi_wp2
      go_end0
      exact ⟨⟨_, rfl⟩, .inl ⟨_, hpre, HJ.out⟩⟩
/-! ### Collect -/
theorem col_app {base k : Nat} {W : World} {v : Value} {xs : List Value} (h : W.ownsRow base /-t-/24 1 v k xs) (hb : base ≤ W.heap.size) (x : Value) (hx : x.oneCell' = true) (hk : k ≤ 65536) :
    ∃ g2 cap W2, (Builtin.append_ #[ /-t-/37, /-t-/37] /-t-/37 #[v, .slice (some ⟨W.heap.size, 0, none⟩) 1 1]).run Tryz.prog (W.alloc (.cells #[x] /-t-/24)) = .ok (.slice (some ⟨g2, 0, none⟩) (k + 1) cap) W2 ∧ W2.ownsRow base /-t-/24 1 (.slice (some ⟨g2, 0, none⟩) (k + 1) cap) (k + 1) (xs ++ [x]) ∧ Ch (fun i => v.ownBlock = some i) W W2 := by
  obtain ⟨i0, hi, hz0, hz1, hz2⟩ := info_parts Tryz.info24
  have k1 : Ch (fun _ => False) W (W.alloc (.cells #[x] /-t-/24)) := (Ch.refl _ W).alloc _ _
  obtain ⟨g, cap, w2, a1, a2, a3, a4, a5⟩ := run_append_lies (P := Tryz.prog) (W.alloc (.cells #[x] /-t-/24)) /-t-/37 /-t-/37 base /-t-/24 i0 (.slice none 0 0) 1 24 Tryz.underlying37 hi hz0 hz1 hz2 rfl (by decide) v k xs (ownsRow_ch h k1) ⟨W.heap.size, 0, none⟩ 1 1 [x] rfl (fun j u hu => by
    rw [add_pl, blk_cell (heap_alloc_new W _), Nat.zero_add]
    show ([x].toArray)[j]? = some u
    rw [List.getElem?_toArray]
    exact hu) (fun u hu => by rw [List.mem_singleton.1 hu]; exact hx) (by omega) (by unfold maxLen; omega) (by omega) (Nat.le_trans hb k1.size) _ rfl
  exact ⟨g, cap, w2, a1, a2, (k1.mono fun _ _ f => f.elim).trans (row_ch a3 |>.mono fun i _ e => e.symm ▸ rfl)⟩
def ColI (g E : Nat) (w1 : World) {N : Nat} (l : List (Fin N)) (W : World) : Prop :=
  ∃ v, W.heap[E]? = some (.cells #[v] /-t-/37 (0, 0)) ∧ W.ownsRow w1.heap.size /-t-/24 1 v l.length ((l.map Fin.val).map (chV g)) ∧ Ch (fun i => i = E) w1 W
theorem colI_own (g E : Nat) (w1 : World) (hE : E < w1.heap.size) (N : Nat) : OwnFrom w1.heap.size (ColI g E w1 (N := N)) := by
  rintro l W W' row ⟨v, h1, h2, h3⟩ hg hr
  have hnc : ∀ i c t f, W.heap[i]? = some (.cells c t f) → ¬ row = some i := fun i c t f hc e => by
    obtain ⟨_, o, ho, hn⟩ := hr i e
    rw [hc] at ho; cases ho; cases hn
  refine ⟨v, ((row_ch hg).block E (blk_lt h1) (hnc E _ _ _ h1)).trans h1, ownsRow_chS h2 (row_ch hg) fun i hi => ?_, ch_then h3 (row_ch hg) fun i e => Or.inr (hr i e).1⟩
  obtain ⟨c, hc⟩ := own_cells h2 i hi
  exact hnc i _ _ _ hc
theorem zipC {N : Nat} (g : Nat) (p : Tmp) (x : Fin N) (t : Array Value) : ((#[p] : Array Tmp).zip (encC g x)).foldl (fun t (p, v) => t.setIfInBounds p v) t = t.setIfInBounds p (chV g x.1) := by
  simp [encC]
def ColPost (g N : Nat) (w : World) (e : Ending) (w' : World) : Prop := ∃ v, e = .returned v ∧ w'.ownsRow w.heap.size /-t-/24 1 v N (valsL N (chV g)) ∧ Ch (fun _ => False) w w'
set_option maxHeartbeats 6400000 in
theorem aseq_any (Bs Bn g N : Nat) (hN : N ≤ 512) (w : World) (hBs : w.heap[Bs]? = some (.cells #[.slice (some ⟨g, 0, none⟩) (N * 228) (N * 228)] /-t-/24 (0, 0))) (hBn : w.heap[Bn]? = some (.cells #[.int .i64 228] /-t-/3 (0, 0))) :
    Calls Tryz.prog 101 #[.slice none 0 0, .func (.func 102) #[] #[.pointer (some ⟨Bs, 0, none⟩), .pointer (some ⟨Bn, 0, none⟩)]] w (ColPost g N w) := by
  obtain ⟨w1, hw1⟩ : ∃ w1, w1 = w.alloc (.cells #[.slice none 0 0] /-t-/37) := ⟨_, rfl⟩
  obtain ⟨E, hE⟩ : ∃ E, E = w.heap.size := ⟨_, rfl⟩
  have hc1 : Ch (fun _ => False) w w1 := by rw [hw1]; exact (Ch.refl _ w).alloc _ _
  have hx : w1.heap[E]? = some (.cells #[.slice none 0 0] /-t-/37 (0, 0)) := by rw [hw1, hE]; exact heap_alloc_new _ _
  have HB1 := Lib.hid ((hc1.block Bs (blk_lt hBs) (fun f => f)).trans hBs)
  have HB2 := Lib.hid ((hc1.block Bn (blk_lt hBn) (fun f => f)).trans hBn)
  have HX := Lib.hid hx
  have HC := Lib.hid hc1
  have HE := Lib.hid hE
  have HN := Lib.hid hN
  have HLT := Lib.hid (And.intro (blk_lt hBs) (blk_lt hBn))
  have HW := Lib.hid hw1
  clear hBs hBn hN hx hc1
  refine (callsIn_wide (n := 9)).1 ?_
  refine callsIn_of_wp_marks Tryz.func101 rfl trivial ?_ rfl
  simp only [Tryz.ntmps101, List.size_toArray, List.length_cons, List.length_nil, Nat.reduceAdd, Nat.reduceSub, Array.replicate_succ, Array.replicate_zero, List.push_toArray, List.append_toArray, List.nil_append, List.cons_append]
  gi_upto_region 1 with fail
  rw [← hE, ← hw1]
  clear hE hw1
  gi_wp2
  obtain ⟨F, hF⟩ : ∃ F, F = Value.func (.func 102) #[] #[.pointer (some ⟨Bs, 0, none⟩), .pointer (some ⟨Bn, 0, none⟩)] := ⟨_, rfl⟩
  refine wpIn_rangeFunc_ownG (ps := #[7]) rfl (by omega) (gf := 102) (lb := #[.pointer (some ⟨Bs, 0, none⟩), .pointer (some ⟨Bn, 0, none⟩)]) rfl trivial (enters_of Tryz.func102 (by kernel_rfl) rfl)
    (encs := encC g (N := N)) (Kp := KpC Bs Bn) (S := fun ys => ys.map Fin.val = List.range N) (Sp := fun pre => ∃ k, k ≤ N ∧ pre.map Fin.val = List.range k) (N := N) (w0 := w1)
    (fun l J Jx W hW hJ hJx hY h0 => chunk1_in 8 (by omega) l Bs Bn g N HN.out J Jx W hJ hY ((hW.block Bs (blk_lt HB1.out)).trans HB1.out) ((hW.block Bn (blk_lt HB2.out)).trans HB2.out) h0)
    (fun h k => h.trans k) (fun W l o o' _ ho hc _ => KpX.put ho hc) (Below.refl _ _) (fun _ => rfl)
    (ColI g E w1) (fun _ _ _ => False) (colI_own g E w1 (blk_lt HX.out) N) (fun _ _ _ _ _ hs _ _ => hs)
    ⟨_, HX.out, World.ownsRow_nil _ _ _ _, Ch.refl _ _⟩
    (fun y => { tmps := #[.slice none 0 0, F, .pointer (some ⟨E, 0, none⟩), undef, .slice none 0 0, chV g y.1, F, chV g y.1, undef, undef, undef, undef, undef], defers := [] }) ?assign ?body ?done ?stop
  case assign =>
    intro l y W K hK
    rw [zipC, hF] at *
    simp only [List.setIfInBounds_toArray, List.set_cons_zero, List.set_cons_succ]
    gi_wp2
    exact hK
  case body =>
    rintro l pre y W ⟨v, h1, h2, h3⟩ hlen
    have hN := HN.out
    obtain ⟨g2, cap, W2, hr, ho, hk⟩ := col_app h2 h3.size (chV g y.1) rfl (by omega)
    obtain ⟨Oy, hOy⟩ : ∃ Oy, Oy = y.1 * 228 := ⟨_, rfl⟩
    have hy' : Value.slice (some ⟨g, Oy, none⟩) 228 228 = chV g y.1 := by rw [hOy]; rfl
    obtain ⟨M, hM⟩ : ∃ M, M = pre.length + 1 := ⟨_, rfl⟩
    obtain ⟨Wa, hWa⟩ : ∃ Wa, Wa = W.alloc (.cells #[.slice (some ⟨g, Oy, none⟩) 228 228] /-t-/24) := ⟨_, rfl⟩
    obtain ⟨Xa, hXa⟩ : ∃ Xa, Xa = W.heap.size := ⟨_, rfl⟩
    have hne : ¬ v.ownBlock = some E := fun e => by
      have := own_low h2 E e
      have := blk_lt HX.out
      omega
    have he2 := (hk.block E (blk_lt h1) hne).trans h1
    have kE : Ch (fun i => i = E) W2 (W2.setCell ⟨E, 0, none⟩ (.slice (some ⟨g2, 0, none⟩) M cap)) := (Ch.refl (fun i => i = E) W2).setCell (p := ⟨E, 0, none⟩) (Or.inl rfl) _
    have hg2 : ¬ (Value.slice (some ⟨g2, 0, none⟩) M cap).ownBlock = some E := fun e => by
      have := own_low ho E (by rw [← hM]; exact e)
      have := blk_lt HX.out
      omega
    have hkk : Ch (fun i => v.ownBlock = some i ∨ i = E) W (W2.setCell ⟨E, 0, none⟩ (.slice (some ⟨g2, 0, none⟩) M cap)) := (hk.mono fun _ _ e => Or.inl e).trans (kE.mono fun _ _ e => Or.inr e)
    have HK1 := Lib.hid (keeps_cells (B := w1.heap.size) hkk fun i e => by
      rcases e with e | e
      · obtain ⟨c, hc⟩ := own_cells h2 i e
        exact Or.inr ⟨_, _, _, hc⟩
      · exact Or.inl (by rw [e]; exact blk_lt HX.out))
    have HK2 : Hid (KpC Bs Bn W (W2.setCell ⟨E, 0, none⟩ (.slice (some ⟨g2, 0, none⟩) M cap))) := Lib.hid (KpX.of hkk fun i hi e => by
      have h5 := HLT.out
      have h6 := HE.out
      have h7 := HC.out.size
      have hi2 : i < w.heap.size := by rcases hi with rfl | rfl; exact h5.1; exact h5.2
      rcases e with e | e
      · have := own_low h2 i e; omega
      · omega)
    have HI : Hid (ColI g E w1 (pre ++ [y]) (W2.setCell ⟨E, 0, none⟩ (.slice (some ⟨g2, 0, none⟩) M cap))) := Lib.hid ⟨_, var_set he2 _, by
      rw [List.length_append, List.map_append, List.map_append]
      show World.ownsRow _ _ _ _ (.slice (some ⟨g2, 0, none⟩) M cap) (pre.length + 1) ((pre.map Fin.val).map (chV g) ++ [chV g y.1])
      refine ownsRow_chS (by rw [hM]; exact ho) kE fun i e x => hg2 (by rw [e, x]), ch_then h3 hkk fun i e => e.elim (fun q => Or.inr (own_low h2 i q)) Or.inl⟩
    have c1 : W.cell? ⟨E, 0, none⟩ = some v := blk_cell h1
    have c2 : W2.cell? ⟨E, 0, none⟩ = some v := blk_cell he2
    have c3 : W2.frozen? ⟨E, 0, none⟩ = false := blk_frozen he2
    rw [← hy', ← hM, ← hWa, ← hXa] at hr
    have HR := Lib.hid hr
    have HWA := Lib.hid hWa
    have HXA := Lib.hid hXa
    rw [← hy']
    clear hr ho hk hy' hOy hM hWa hXa hne he2 kE hg2 hkk h1 h2 h3 hN hlen
    gi_upto_region 3 with fail
    refine wpIn_round_lit (by kernel_rfl) (fun ⟨_, _, h⟩ => h) ?_
    go_wp2_with (first
      | (at_builtin; rw [← HWA.out, ← HXA.out]; refine wpList_rows_of _ rfl (.tmp 8) (.tmp 10) rfl rfl _ _ (.slice (some ⟨g2, 0, none⟩) M cap) W2 rfl rfl (by exact HR.out) ?_)
      | fail)
    gi_wp2
    exact ⟨HK1.out, HK2.out, HI.out⟩
  case done =>
    rintro D ys W hD hys hI hK
    obtain ⟨v, h1, h2, h3⟩ := hI
    have c1 : W.cell? ⟨E, 0, none⟩ = some v := blk_cell h1
    have kD : Ch (fun i => i = D) W (W.putObj D (.deferred none)) := row_ch (grownBy_putObj' W D (.deferred none)) |>.mono fun i _ e => by injection e with e; exact e.symm
    have HFIN : Hid (ColPost g N w (.returned v) (W.putObj D (.deferred none))) := Lib.hid ⟨v, rfl, (by
      have hl : ys.length = N := by have := congrArg List.length hys; simpa using this
      rw [hl, hys] at h2
      refine ownsRow_base (ownsRow_chS h2 kD fun i hi e => ?_) HC.out.size
      obtain ⟨c, hc⟩ := own_cells h2 i hi
      rw [e, hK] at hc
      cases hc), (HC.out.new (h3.mono fun i _ hi => by rw [hi, HE.out]; exact Nat.le_refl _)).new (kD.mono fun i _ e => by rw [e]; exact Nat.le_trans HC.out.size hD)⟩
    clear h1 h2 h3 kD
    gi_wp2
    refine ⟨by simp, .inl ⟨_, _, rfl, run_takeDeferred hK, ?_⟩⟩
    refine ⟨v, (results_tmp rfl _ _ _).trans ?_, HFIN.out⟩
    rfl
  case stop =>
    rintro D c pre W _ _ hf _
    exact hf.elim
theorem collect_any (Bs Bn g N : Nat) (hN : N ≤ 512) (w : World) (hBs : w.heap[Bs]? = some (.cells #[.slice (some ⟨g, 0, none⟩) (N * 228) (N * 228)] /-t-/24 (0, 0))) (hBn : w.heap[Bn]? = some (.cells #[.int .i64 228] /-t-/3 (0, 0))) :
    Calls Tryz.prog 61 #[.func (.func 102) #[] #[.pointer (some ⟨Bs, 0, none⟩), .pointer (some ⟨Bn, 0, none⟩)]] w (ColPost g N w) := by
  have HA := Lib.hid (aseq_any Bs Bn g N hN w hBs hBn)
  clear hN hBs hBn
  go_enter Tryz.func61, Tryz.ntmps61
  go_wp2_with fail
  refine HA.out.mono ?_
  rintro e w1 ⟨v, rfl, h1, h2⟩
  have H1 := Lib.hid h1
  have H2 := Lib.hid h2
  clear h1 h2
  go_wp2
  go_ret
  exact ⟨v, rfl, H1.out, H2.out⟩
/-! ### cut -/
/-- A row that was made, and the list of its pieces. -/
def CutPost (N : Nat) (Z : Nat → Nat) (w : World) (e : Ending) (w' : World) : Prop :=
  ∃ v g, e = .returned v ∧ w'.ownsRow w.heap.size /-t-/24 1 v N (valsL N (chV g)) ∧ RowV w' (.slice (some ⟨g, 0, none⟩) (N * 228) (N * 228)) (N * 228) Z ∧ Ch (fun _ => False) w w'
set_option maxHeartbeats 3200000 in
theorem cut_any (A : Option Addr) (l C : Nat) (z : Nat → Nat) (n : Gn) (w : World) (hn : n.Ok) (hl : l ≤ n.S * n.K * 228) (hb : RowV w (.slice A l C) l z) :
    Calls Tryz.prog 34 #[.agg (geC n.ge), .slice A l C] w (CutPost (n.S * n.K) (padZ l z) w) := by
  obtain ⟨w1, H, hR⟩ := geR w n.ge
  obtain ⟨x0, x1, x2, x3⟩ := hR.x
  have HR := Lib.hid hR
  have HRM := Lib.hid (room_any n.ge w1)
  have hN := sk_le hn
  obtain ⟨N, hNe⟩ : ∃ N, N = n.S * n.K := ⟨_, rfl⟩
  rw [← hNe] at hN hl ⊢
  obtain ⟨T, hT⟩ : ∃ T, T = N * 228 := ⟨_, rfl⟩
  have HRG := Lib.hid (show roomG n.ge = (T : Int) by
    unfold roomG
    rw [ok_may hn, hT, hNe]
    show (n.S : Int) * (n.K : Int) * 228 = _
    rw [Int.natCast_mul, Int.natCast_mul]
    rfl)
  rw [← hT] at hl
  have hT1 : T ≤ 116736 := by omega
  have hmk := run_make_row' (P := Tryz.prog) 24 5 (.int .u8 0) 1 Tryz.underlying24 Tryz.info5 rfl .i64 .i64 T (by omega) (by omega)
  have HB := Lib.hid hb
  have HT := Lib.hid hT
  have HN := Lib.hid hN
  have HL := Lib.hid hl
  have t0 : (0 : Int) ≤ (T : Int) := Int.natCast_nonneg _
  have t1 : (T : Int) ≤ 116736 := by omega
  have HMK := Lib.hid hmk
  clear hR hn hNe hT hl hb hN hT1 hmk
  go_enter Tryz.func34, Tryz.ntmps34
  go_wp2_with (first | ((with_reducible refine wpList_isOp (.box 23 (.tmp 0)) rfl ?_); refine wpList_boxing _ w1 rfl 23 (.tmp 0) rfl (geC n.ge) H rfl (by exact HR.out.sz) (by exact HR.out.al) ?_) | fail)
  refine HRM.out.mono ?_
  rintro e w2 ⟨rfl, hc2⟩
  rw [HRG.out]
  have HC := Lib.hid (HR.out.ch.trans hc2)
  clear hc2 x0 x1 x2 x3 HRM
  have h0 : (w2.alloc (.cells (madeCells #[.int .u8 0] T) /-t-/5)).rowIs w2.heap.size /-t-/5 T (fun i => .int .u8 (((fun _ => 0 : Nat → Nat) i : Nat) : Int)) := (World.rowIs_made w2 _ T _).congr fun j _ => by simp
  have k0 : Ch (fun _ => False) w2 (w2.alloc (.cells (madeCells #[.int .u8 0] T) /-t-/5)) := (Ch.refl _ w2).alloc _ _
  obtain ⟨w3, hw3⟩ : ∃ w3, w3 = w2.alloc (.cells (madeCells #[.int .u8 0] T) /-t-/5) := ⟨_, rfl⟩
  obtain ⟨g, hg⟩ : ∃ g, g = w2.heap.size := ⟨_, rfl⟩
  rw [← hw3, ← hg] at h0
  rw [← hw3] at k0
  obtain ⟨w4, hcp, hr4, hg4⟩ := cpy_at (o := 0) (c := T) h0 ((HB.out.gr HC.out).gr k0) (by have := HL.out; omega)
  rw [Nat.sub_zero] at hcp
  have hk4 : Ch (fun _ => False) w w4 := (HC.out.trans k0).new ((row_ch hg4).mono fun i _ e => by
    injection e with e
    rw [← e, hg]
    exact HC.out.size)
  have hz : ∀ i, i < T → padZ l z i < 256 := fun i _ => padZ_b HB.out.bytes i
  have hr5 : w4.rowIs g /-t-/5 T (fun i => .int .u8 (padZ l z i : Int)) := hr4.congr fun i _ => by
    unfold padZ
    by_cases q : i < l
    · rw [if_pos (by omega), if_pos q, Nat.sub_zero]
    · rw [if_neg (by omega), if_neg q]
  have hrow : RowV w4 (.slice (some ⟨g, 0, none⟩) T T) T (padZ l z) := rowIs_v hr5 (by have := HL.out; omega) (Nat.le_refl _) hz
  have HROW := Lib.hid hrow
  have HK4 := Lib.hid hk4
  have HCP := Lib.hid hcp
  have HMK2 := Lib.hid (show (Instr.makeSlice /-t-/24 (.int .i64 T) (.int .i64 T)).run Tryz.prog w2 = .ok (.slice (some ⟨g, 0, none⟩) T T) w3 by rw [HMK.out, ← hw3, ← hg])
  have hmk := HMK2.out
  have HCH := Lib.hid (chunk_any (some ⟨g, 0, none⟩) T T w4)
  clear h0 k0 hw3 hg hcp hr4 hg4 hk4 hz hr5 hrow
  go_wp2_with (first
    | ((with_reducible refine wpList_isOp (.call { callee := .builtin .copy, args := #[.tmp 9, .tmp 10], argTypes := #[ /-t-/24, /-t-/24] }) rfl ?_); refine wpList_cpy_of _ rfl (.tmp 9) (.tmp 10) rfl _ _ _ w4 rfl rfl HCP.out ?_)
    | fail)
  refine HCH.out.mono ?_
  rintro e w5 ⟨Bs, Bn, rfl, h1, h2, _, _, hc5⟩
  rw [HT.out] at h1
  have HCO := Lib.hid (collect_any Bs Bn g N HN.out w5 h1 h2)
  have HC5 := Lib.hid (HK4.out.trans hc5)
  have HR5 := Lib.hid (HROW.out.gr hc5)
  clear h1 h2 hc5 hmk
  go_wp2_with fail
  refine HCO.out.mono ?_
  rintro e w6 ⟨v, rfl, h1, h2⟩
  have HFIN : Hid (CutPost N (padZ l z) w (.returned v) w6) := Lib.hid ⟨v, g, rfl, ownsRow_base h1 HC5.out.size, by rw [← HT.out]; exact HR5.out.gr h2, HC5.out.trans h2⟩
  clear h1 h2
  go_wp2
  go_ret
  exact HFIN.out
end Go.Proofs.YtlbdopcchoklhaaGreat
namespace Go.Proofs.YtlbdopcchoklhaaGreat
open Go.RowKit
set_option linter.unusedVariables false
set_option maxRecDepth 100000

/-! ### rows of bytes -/
structure BsV (w : World) (A : Option Addr) (k C : Nat) (N : Nat → Nat) (Z : Nat → Nat → Nat) : Prop where
  le : k ≤ 140737488351232
  cap : k ≤ C
  at' : 0 < k → ∃ b o, A = some ⟨b, o, none⟩ ∧ ∀ c, c < k → ∃ A' C', w.cell? ⟨b, o + c, none⟩ = some (.slice A' (N c) C') ∧ RowV w (.slice A' (N c) C') (N c) (Z c)
theorem BsV.ch {S : Nat → Prop} {w w' : World} {A : Option Addr} {k C : Nat} {N : Nat → Nat} {Z : Nat → Nat → Nat} (h : BsV w A k C N Z) (g : Ch S w w') (hS : ∀ i, i < w.heap.size → ¬ S i) : BsV w' A k C N Z :=
  ⟨h.le, h.cap, fun h0 => by
    obtain ⟨b, o, hA, hc⟩ := h.at' h0
    refine ⟨b, o, hA, fun c hck => ?_⟩
    obtain ⟨A', C', h1, h2⟩ := hc c hck
    exact ⟨A', C', g.cell h1 (hS _ (World.block_lt_of_cell? _ _ h1)), h2.ch g hS⟩⟩
theorem BsV.gr {w w' : World} {A : Option Addr} {k C : Nat} {N : Nat → Nat} {Z : Nat → Nat → Nat} (h : BsV w A k C N Z) (g : Ch (fun _ => False) w w') : BsV w' A k C N Z := h.ch g (fun _ _ f => f)

theorem own_new {w wr w2 : World} {n C : Nat} {A : Option Addr} {z : Nat → Nat} (h : w2.ownsRow wr.heap.size /-t-/5 1 (.slice A n C) n (bytesL n z)) (hn : 0 < n) (hn2 : n ≤ 1000000) (hz : Bytes n z) (hc : w.heap.size ≤ wr.heap.size) : ∃ g, A = some ⟨g, 0, none⟩ ∧ OwnB w w2 (.slice A n C) n z g 0 C := by
  have hr := ownsRow_rowV h (by omega) hz
  obtain ⟨g, C', e, _⟩ := owns_some h hn
  injection e with e1 _ e2
  subst e1
  obtain ⟨hg, hb⟩ := own_at h (i := g) rfl
  exact ⟨g, rfl, ⟨rfl, hr, hb, Nat.le_trans hc hg⟩⟩
/-! ### rows of bytes, gathered -/
theorem under_bs : Tryz.prog.underlying /-t-/37 = some (.slice /-t-/24) := by kernel_rfl
theorem info_bs : (Tryz.prog.info? /-t-/24).map (fun i => (i.zero, i.size, i.bytes)) = some (some (.slice none 0 0), 1, 24) := by kernel_rfl
def slL (s : Nat → Value) (k : Nat) : List Value := (List.range k).map s
theorem slL_snoc (s : Nat → Value) (k : Nat) (u : Value) : slL (up s k u) (k + 1) = slL s k ++ [u] := by
  unfold slL
  rw [List.range_succ, List.map_append]
  congr 1
  · exact List.map_congr_left fun c hc => up_other s u (by have := List.mem_range.1 hc; omega)
  · simp [up_same]
/-- Bytes of one's own, or none. -/
def RowN (w wr : World) (u : Value) (n : Nat) (z : Nat → Nat) : Prop := ∃ A C, u = .slice A n C ∧ n ≤ C ∧ (n = 0 ∨ ∃ sb so, OwnB w wr u n z sb so C)
theorem RowN.ch {S : Nat → Prop} {w wr w' : World} {u : Value} {n : Nat} {z : Nat → Nat} (h : RowN w wr u n z) (k : Ch S wr w') (hS : ∀ i, S i → w.heap.size ≤ i → ¬ ∃ c, wr.heap[i]? = some (.cells c /-t-/5 (0, 0))) : RowN w w' u n z := by
  obtain ⟨A, C, h1, h2, h3⟩ := h
  refine ⟨A, C, h1, h2, h3.elim Or.inl fun ⟨sb, so, q⟩ => Or.inr ⟨sb, so, q.ch k fun hs => hS sb hs q.lo q.blk⟩⟩
theorem RowN.row {w wr : World} {u : Value} {n : Nat} {z : Nat → Nat} (h : RowN w wr u n z) : RowV wr u n z := by
  obtain ⟨A, C, h1, h2, h3⟩ := h
  rcases h3 with rfl | ⟨sb, so, q⟩
  · exact ⟨A, C, h1, ⟨by omega, h2⟩, fun q => absurd q (Nat.lt_irrefl 0)⟩
  · rw [q.eq]; exact q.row
theorem RowN.own {w wr w2 : World} {v : Value} {n : Nat} {z : Nat → Nat} (h : w2.ownsRow wr.heap.size /-t-/5 1 v n (bytesL n z)) (hn2 : n ≤ 1000000) (hz : Bytes n z) (hc : w.heap.size ≤ wr.heap.size) : RowN w w2 v n z := by
  obtain ⟨A, C, rfl⟩ := own_slice h
  obtain ⟨_, C', e, h2, _⟩ := ownsRow_rowV h (by omega) hz
  injection e with _ _ e
  subst e
  refine ⟨A, C, rfl, h2.2, ?_⟩
  by_cases q : n = 0
  · exact Or.inl q
  · obtain ⟨g, rfl, hb⟩ := own_new h (by omega) hn2 hz hc
    exact Or.inr ⟨g, 0, hb⟩
structure BsO (w wr : World) (v : Value) (k : Nat) (N : Nat → Nat) (Z : Nat → Nat → Nat) (s : Nat → Value) : Prop where
  own : wr.ownsRow w.heap.size /-t-/24 1 v k (slL s k)
  rows : ∀ c, c < k → RowN w wr (s c) (N c) (Z c)
theorem BsO.start (w : World) (N : Nat → Nat) (Z : Nat → Nat → Nat) (s : Nat → Value) : BsO w w (.slice none 0 0) 0 N Z s := ⟨World.ownsRow_nil w w.heap.size _ 1, fun c hc => absurd hc (Nat.not_lt_zero c)⟩
theorem BsO.ch {S : Nat → Prop} {w wr w' : World} {v : Value} {k : Nat} {N : Nat → Nat} {Z : Nat → Nat → Nat} {s : Nat → Value} (h : BsO w wr v k N Z s) (g : Ch S wr w') (hS : ∀ i, S i → i < w.heap.size) : BsO w w' v k N Z s :=
  ⟨own_of h.own fun i hi => by
    obtain ⟨hb, c, hc⟩ := own_at h.own hi
    exact g.block i (blk_lt hc) fun q => by have := hS i q; omega, fun c hc => (h.rows c hc).ch g fun i hi hb => by have := hS i hi; omega⟩
theorem BsO.len {w wr : World} {v : Value} {k : Nat} {N : Nat → Nat} {Z : Nat → Nat → Nat} {s : Nat → Value} (h : BsO w wr v k N Z s) : ∃ A C, v = .slice A k C := by
  rcases h.own.2 with ⟨rfl, h0⟩ | ⟨g, cap, cur, rfl, _⟩
  · exact ⟨none, 0, by rw [h0]⟩
  · exact ⟨_, _, rfl⟩
theorem RowN.one {w wr : World} {u : Value} {n : Nat} {z : Nat → Nat} (h : RowN w wr u n z) : u.oneCell' = true := by
  obtain ⟨A, C, h1, _⟩ := h
  rw [h1]; rfl
theorem BsO.app {w wr : World} {v u : Value} {k : Nat} {N : Nat → Nat} {Z : Nat → Nat → Nat} {s : Nat → Value} (h : BsO w wr v k N Z s) (hu : RowN w wr u (N k) (Z k)) (hk : k ≤ 1048576) (hw : w.heap.size ≤ wr.heap.size) :
    ∃ g cap w2, (Builtin.append_ #[ /-t-/37, /-t-/37] /-t-/37 #[v, .slice (some ⟨wr.heap.size, 0, none⟩) 1 1]).run Tryz.prog (wr.alloc (.cells #[u] /-t-/24)) = .ok (.slice (some ⟨g, 0, none⟩) (k + 1) cap) w2 ∧ BsO w w2 (.slice (some ⟨g, 0, none⟩) (k + 1) cap) (k + 1) N Z (up s k u) ∧ Ch (fun i => w.heap.size ≤ i) wr w2 := by
  obtain ⟨i0, hi, hz0, hz1, hz2⟩ := info_parts info_bs
  have k1 : Ch (fun _ => False) wr (wr.alloc (.cells #[u] /-t-/24)) := (Ch.refl _ wr).alloc _ _
  obtain ⟨g, cap, w2, hr, h2, h3, h4, _⟩ := run_append_lies (P := Tryz.prog) (wr.alloc (.cells #[u] /-t-/24)) /-t-/37 /-t-/37 w.heap.size /-t-/24 i0 (.slice none 0 0) 1 24 under_bs hi hz0 hz1 hz2 rfl (by decide) v k (slL s k) (ownsRow_ch h.own k1) ⟨wr.heap.size, 0, none⟩ 1 1 [u] rfl (fun j x hx => by
    rw [add_pl, blk_cell (heap_alloc_new wr _), Nat.zero_add]
    show ([u].toArray)[j]? = some x
    rw [List.getElem?_toArray]
    exact hx) (fun x hx => by rw [List.mem_singleton.1 hx]; exact hu.one) (by omega) (by unfold maxLen; omega) (by omega) (Nat.le_trans hw k1.size) _ rfl
  rw [← slL_snoc] at h2
  have k2 : Ch (fun i => v.ownBlock = some i) (wr.alloc (.cells #[u] /-t-/24)) w2 := (Ch.refl _ _).grown h3 (fun i hi => Or.inl hi)
  have off : ∀ i, v.ownBlock = some i → w.heap.size ≤ i → ¬ ∃ c, (wr.alloc (.cells #[u] /-t-/24)).heap[i]? = some (.cells c /-t-/5 (0, 0)) := fun i e _ ⟨c, hc⟩ => by
    obtain ⟨_, c2, hc2⟩ := own_at (ownsRow_ch h.own k1) e
    exact cells_ne hc2 hc (by decide) rfl
  refine ⟨g, cap, w2, hr, ⟨h2, fun c hc => ?_⟩, (k1.mono fun _ _ f => f.elim).trans (k2.mono fun i _ hi => (own_at h.own hi).1)⟩
  by_cases q : c = k
  · subst q
    rw [up_same]
    exact (hu.ch k1 fun _ f => f.elim).ch k2 off
  · rw [up_other _ _ q]
    exact ((h.rows c (by omega)).ch k1 fun _ f => f.elim).ch k2 off
theorem BsO.read {w wr : World} {A : Option Addr} {C k : Nat} {N : Nat → Nat} {Z : Nat → Nat → Nat} {s : Nat → Value} (h : BsO w wr (.slice A k C) k N Z s) (hk : k ≤ 1000000) : BsV wr A k C N Z := by
  have hC : k ≤ C := by
    rcases h.own.2 with ⟨e, h0⟩ | ⟨g, cap, cur, e, _, _, hc, _⟩
    · omega
    · injection e with _ _ e
      omega
  refine ⟨by omega, hC, fun h0 => ?_⟩
  rcases h.own.2 with ⟨_, q⟩ | ⟨g, cap, cur, e, hb, hg, _⟩
  · omega
  · injection e with e _ _
    subst e
    refine ⟨g, 0, rfl, fun c hc => ?_⟩
    have hr := h.rows c hc
    obtain ⟨A', C', e', _⟩ := id hr
    have c0 := World.ownsRow.cells h.own (g := g) rfl c (s c) (by unfold slL; simp [hc])
    rw [add_pl] at c0
    exact ⟨A', C', by rw [← e']; exact c0, by rw [← e']; exact hr.row⟩
end Go.Proofs.YtlbdopcchoklhaaGreat
