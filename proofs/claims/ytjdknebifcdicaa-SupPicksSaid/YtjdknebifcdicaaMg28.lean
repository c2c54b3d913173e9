/-
  sup.read and Told, walked.
-/
import Derived.Test.YtjdknebifcdicaaMg27
import Derived.Test.YtjdknebifcdicaaMg16
import Derived.Test.YtjdknebifcdicaaMg11
import Derived.Test.YtjdknebifcdicaaMg8
namespace Go.Proofs.Ytjdknebifcdicaa
open Go.RowKit
set_option linter.unusedVariables false
set_option maxRecDepth 100000

/-! ### a number is read into a variable -/
theorem supC_int (s : Sp) {o : Nat} {v : Value} (h : (supC s)[o]? = some v) : ∃ k, v = .int .i64 k := by
  have ho : o < 12 := by have := (Array.getElem?_eq_some_iff.1 h).1; exact this
  match o, ho with
  | 0, _ | 1, _ | 2, _ | 3, _ | 4, _ | 5, _ | 6, _ | 7, _ | 8, _ | 9, _ | 10, _ | 11, _ => exact ⟨_, (Option.some.inj h).symm⟩
theorem off_su {w : World} {H n : Nat} {s : Sp} {x : Value} {z : Nat → Nat} (h : w.heap[H]? = some (.cells (supC s) 25 (0, 0))) (hr : RowV w x n z) : Off (fun i => i = H) x := fun b o m C e hb => by
  obtain ⟨A, D, e1, _, h3⟩ := hr
  rw [e] at e1
  injection e1 with e1 e2 _
  obtain ⟨b', o', e4, hc⟩ := h3 (by omega)
  rw [← e1] at e4
  injection e4 with e4
  injection e4 with e5 e6
  have h0 := (hc 0 (by omega)).1
  rw [← e5, hb, blk_cell h] at h0
  obtain ⟨k, hk⟩ := supC_int s h0
  cases hk
theorem supC_set (v g e : Int) (V : Nat → Int) {j : Nat} (hj : j < 9) (k : Int) : (supC (spOf v g e V)).setIfInBounds (3 + j) (.int .i64 k) = supC (spOf v g e (up V j k)) := by
  match j, hj with
  | 0, _ | 1, _ | 2, _ | 3, _ | 4, _ | 5, _ | 6, _ | 7, _ | 8, _ => rfl
set_option maxHeartbeats 400000 in
theorem reads_one (B H D o n k e : Nat) (c : Value) (x : Value) (z : Nat → Nat) (w : World) (hd : w.heap[D]? = some (.cells #[.pointer (some ⟨B, 0, none⟩)] 101 (0, 0))) (hi : InIs w B x n z) (hr : Cod.Rd n z k e)
    (hH : w.cell? ⟨H, o, none⟩ = some c) (hf : w.frozen? ⟨H, o, none⟩ = false) (hBH : H ≠ B) :
    Calls Try.prog 57 #[.pointer (some ⟨H, o, none⟩), .pointer (some ⟨D, 0, none⟩)] w fun en w' => en = .returned (.tuple #[]) ∧ ∃ w1 x', w' = w1.setCell ⟨H, o, none⟩ (.int .i64 (Cod.resV T63 z k e : Int)) ∧ InIs w1 B x' (n - Cod.resK T63 z k e) (fun i => z (Cod.resK T63 z k e + i)) ∧ (∀ S, Off S x → Off S x') ∧ Ch (fun i => i = B) w w1 := by
  have HN := Lib.hid (inum_any B n x z k e w hi hr)
  have hd0 : w.cell? ⟨D, 0, none⟩ = some (.pointer (some ⟨B, 0, none⟩)) := blk_cell hd
  have HH := Lib.hid hH
  have HBH := Lib.hid hBH
  have HF := Lib.hid hf
  have HLT := Lib.hid (World.block_lt_of_cell? _ _ hH)
  obtain ⟨V, hV⟩ : ∃ V, V = Cod.resV T63 z k e := ⟨_, rfl⟩
  obtain ⟨E, hE⟩ : ∃ V, V = Cod.resE T63 z k e := ⟨_, rfl⟩
  rw [← hV, ← hE] at HN
  rw [← hV]
  clear hV hE hi hr hd hH hf hBH
  go_enter Try.func57, Try.ntmps57
  go_wp2_with fail
  refine HN.out.mono ?_
  rintro e' w1 ⟨rfl, x', q1, q2, q3⟩
  have hc1 := q3.cell HH.out HBH.out
  have hf1 : w1.frozen? ⟨H, o, none⟩ = false := by
    have hb := q3.block H HLT.out HBH.out
    have := HF.out
    unfold World.frozen? at this ⊢
    rw [hb]
    exact this
  have Q1 := Lib.hid q1
  have Q2 := Lib.hid q2
  have Q3 := Lib.hid q3
  clear q1 q2 q3
  go_wp2
  go_end0
  exact ⟨rfl, _, x', rfl, Q1.out, Q2.out, Q3.out⟩
#print axioms reads_one

/-! ### all nine -/
/-- How the numbers are read into the variable H out of the In at B, which the variable D points to. -/
structure ReadsP (w : World) (B H D : Nat) (Y : Sp → Prop) (v g e : Int) (j : Nat) (wr : World) : Prop where
  var : ∃ V, wr.heap[H]? = some (.cells (supC (spOf v g e V)) 25 (0, 0)) ∧ ∀ y, Y y → ∀ c, c < j → V c = numS y c
  ptr : wr.heap[D]? = some (.cells #[.pointer (some ⟨B, 0, none⟩)] 101 (0, 0))
  inp : ∃ x n z, InIs wr B x n z ∧ BackTo Y j n z
  ch : Ch (fun _ => False) w wr
theorem ReadsP.gr {w : World} {B H D : Nat} {Y : Sp → Prop} {v g e : Int} (j : Nat) (wr w' : World) (h : ReadsP w B H D Y v g e j wr) (k : Ch (fun _ => False) wr w') : ReadsP w B H D Y v g e j w' := by
  obtain ⟨⟨V, h1, h2⟩, h3, ⟨x, n, z, h4, h5⟩, h6⟩ := h
  exact ⟨⟨V, (k.block H (blk_lt h1) (fun f => f)).trans h1, h2⟩, (k.block D (blk_lt h3) (fun f => f)).trans h3, ⟨x, n, z, h4.gr k, h5⟩, h6.trans k⟩
theorem ReadsP.step {w : World} {B H D : Nat} {Y : Sp → Prop} {v g e : Int} (hB : w.heap.size ≤ B) (hH : w.heap.size ≤ H) (hY : ∀ y, Y y → mayS y = true) {j : Nat} (hj : j < 9) (wr : World) (G : Nat) (h : ReadsP w B H D Y v g e j wr)
    (hG : wr.heap[G]? = some (.cells (ptrC H) 96 (0, 0))) :
    Calls Try.prog 57 #[.pointer (some ⟨H, 3 + j, none⟩), .pointer (some ⟨D, 0, none⟩)] wr fun en w' => en = .returned (.tuple #[]) ∧ ReadsP w B H D Y v g e (j + 1) w' ∧ w'.heap[G]? = wr.heap[G]? := by
  obtain ⟨⟨V, h1, h2⟩, h3, ⟨x, n, z, h4, h5⟩, h6⟩ := h
  have hb : wr.heap[B]? = some (.cells #[x] 126 (0, 0)) := h4.box
  have nHB : H ≠ B := cells_ne h1 hb (by decide)
  have nDB : D ≠ B := cells_ne h3 hb (by decide)
  have nGB : G ≠ B := cells_ne hG hb (by decide)
  have nDH : D ≠ H := cells_ne h3 h1 (by decide)
  have nGH : G ≠ H := cells_ne hG h1 (by decide)
  obtain ⟨k, en, hr⟩ := Cod.rd_some n z
  have hc := numS_cell h1 hj
  refine (reads_one B H D (3 + j) n k en _ x z wr h3 h4 hr hc (blk_frozen h1) nHB).mono ?_
  rintro e' w' ⟨rfl, w1, x', rfl, q1, q2, q3⟩
  obtain ⟨b1, b2⟩ := h5.next hj hY hr
  have g1 := (q3.block H (blk_lt h1) nHB).trans h1
  have kset := Ch.setCell (S := fun i => i = H) (Ch.refl _ w1) (p := ⟨H, 3 + j, none⟩) (Or.inl rfl) (.int .i64 (Cod.resV T63 z k en : Int))
  have e1 := blk_set (i := 3 + j) g1 (.int .i64 (Cod.resV T63 z k en : Int))
  rw [supC_set v g e V hj] at e1
  have lH := blk_lt g1
  have g3 := (q3.block D (blk_lt h3) nDB).trans h3
  have gG := (q3.block G (blk_lt hG) nGB).trans hG
  refine ⟨rfl, ⟨⟨_, e1, fun y hy c hc => ?_⟩, (kset.block D (blk_lt g3) nDH).trans g3, ⟨x', _, _, q1.ch kset (fun q => nHB q.symm) (off_su g1 q1.row), b1⟩, ?_⟩, (kset.block G (blk_lt gG) nGH).trans (gG.trans hG.symm)⟩
  · by_cases q : c = j
    · subst q
      rw [up_same]
      exact (b2 y hy).2
    · rw [up_other _ _ q]
      exact h2 y hy c (by omega)
  · exact (h6.new (q3.mono fun i _ hi => by rw [hi]; exact hB)).new (kset.mono fun i _ hi => by rw [hi]; exact hH)
#print axioms ReadsP.step

/-! ### read -/
theorem built_su (v g e : Int) (w : World) : (Instr.build 25 #[(0, .int .i64 v), (1, .int .i64 g), (2, .int .i64 e)]).run Try.prog w = .ok (.agg (supC (spOf v g e fun _ => 0))) w := run_build w _ _ _ (by kernel_rfl)
theorem open_len {n : Nat} {z : Nat → Nat} {V : Value} : (openB n z V).len ≤ 228 := by
  unfold openB
  split
  · exact readL_le z
  · exact Nat.zero_le _
set_option maxHeartbeats 3200000 in
theorem sread_any (A : Option Addr) (n C : Nat) (z : Nat → Nat) (w : World) (h : RowV w (.slice A n C) n z) : Calls Try.prog 30 #[.slice A n C] w fun e w' => ∃ x, e = .returned (.agg (supC x)) ∧ (∀ i y, Tells n z i y → x = y) ∧ Ch (fun _ => False) w w' := by
  obtain ⟨w1, H, hZ⟩ := zeS w
  have HZ := Lib.hid hZ
  have HV1 := Lib.hid (h.gr hZ.ch)
  clear hZ h
  go_enter Try.func30, Try.ntmps30
  go_wp2_with ((with_reducible refine wpList_isOp (.alloc 25) rfl ?_); refine wpList_making _ w1 rfl 25 rfl (supC sp0) H (zero_su _) (by exact HZ.out.sz) (by exact HZ.out.al) ?_)
  refine (bopen_any A n C z _ HV1.out).mono ?_
  rintro e w2 ⟨V, rfl, hb2, hc2⟩
  obtain ⟨o, ho⟩ : ∃ o, o = openB n z V := ⟨_, rfl⟩
  obtain ⟨E, hE⟩ : ∃ E, E = openQ n z := ⟨_, rfl⟩
  rw [← ho] at hb2
  rw [← ho, ← hE]
  obtain ⟨w3, H3, hZ3⟩ := zeR w2
  obtain ⟨A', C', hoV, _⟩ := id hb2.row
  obtain ⟨w4, h4⟩ := stR (b := o) hZ3.cx ⟨_, _, _, hoV⟩
  have hc4 : Ch (fun _ => False) w2 w4 := hZ3.ch.over h4.ch (by rw [hZ3.sz]; exact Nat.le_refl _)
  have c1 : w4.cell? ⟨H3, 1, none⟩ = some (.int .i64 o.vol) := blk_cell h4.cx
  have c3 : w4.cell? ⟨H3, 3, none⟩ = some (.int .i64 o.epoch) := blk_cell h4.cx
  have c4 : w4.cell? ⟨H3, 4, none⟩ = some (.int .i64 o.seq) := blk_cell h4.cx
  obtain ⟨wz, w5, H5, hV5⟩ := varS (spOf o.vol o.seq o.epoch fun _ => 0) w4
  have c5 : w5.cell? ⟨H3, 5, none⟩ = some (.slice A' o.len C') := by
    have := hV5.ch.cell (p := ⟨H3, 5, none⟩) (v := o.V) (blk_cell h4.cx) (fun f => f)
    rw [hoV] at this
    exact this
  have hrow := (hb2.row.gr hc4).gr hV5.ch
  rw [hoV] at hrow
  have hol : o.len ≤ 228 := by rw [ho]; exact open_len
  have HN := Lib.hid (newIn_any A' o.len C' o.z w5 hrow (by omega))
  have HC5 := Lib.hid ((hc2.trans hc4).trans hV5.ch)
  have HH5 := Lib.hid (show w1.heap.size ≤ H5 by rw [← hV5.sz]; exact (hc2.trans hc4).size)
  have HX1 := Lib.hid ((((hc2.trans hc4).trans hV5.ch).block H (blk_lt (o := .cells (supC sp0) 25 (0, 0)) HZ.out.cx) (fun f => f)).trans HZ.out.cx)
  have HZ3 := Lib.hid hZ3
  have H4 := Lib.hid h4
  have HV5 := Lib.hid hV5
  have HO := Lib.hid ho
  have HBS := Lib.hid (built_su o.vol o.seq o.epoch w4)
  clear hb2 hc2 hc4 hZ3 h4 hV5 hrow hol hE hoV ho
  go_wp2_with (first
    | ((with_reducible refine wpList_isOp (.alloc 61) rfl ?_); refine wpList_making _ w3 rfl 61 rfl (bkC bk0) H3 (zero_bk _) (by exact HZ3.out.sz) (by exact HZ3.out.al) ?_)
    | ((with_reducible refine wpList_isOp (.store 61 (.tmp 3) (.tmp 10)) rfl ?_); refine wpList_storing _ w4 rfl 61 (.tmp 3) (.tmp 10) rfl (.agg (bkC o)) ⟨H3, 0, none⟩ rfl rfl (by exact H4.out.st) ?_)
    | ((with_reducible refine wpList_isOp (.build 25 #[(0, .tmp 13), (1, .tmp 15), (2, .tmp 17)]) rfl ?_); refine wpList_building _ rfl 25 #[(0, .tmp 13), (1, .tmp 15), (2, .tmp 17)] rfl _ (by exact HBS.out) ?_)
    | ((with_reducible refine wpList_isOp (.alloc 25) rfl ?_); refine wpList_making _ wz rfl 25 rfl (supC sp0) H5 (zero_su _) (by exact HV5.out.sz) (by exact HV5.out.al) ?_)
    | ((with_reducible refine wpList_isOp (.store 25 (.tmp 5) (.tmp 18)) rfl ?_); refine wpList_storing _ w5 rfl 25 (.tmp 5) (.tmp 18) rfl (.agg (supC (spOf o.vol o.seq o.epoch fun _ => 0))) ⟨H5, 0, none⟩ rfl rfl (by exact HV5.out.st) ?_)
    | fail)
  refine HN.out.mono ?_
  rintro e w6 ⟨B, x, rfl, hin, hB, hc6⟩
  obtain ⟨w7, hw7⟩ : ∃ w7, w7 = w6.alloc (.cells #[.pointer (some ⟨B, 0, none⟩)] 101) := ⟨_, rfl⟩
  obtain ⟨D, hD⟩ : ∃ D, D = w6.heap.size := ⟨_, rfl⟩
  have hc67 : Ch (fun _ => False) w6 w7 := by rw [hw7]; exact (Ch.refl _ w6).alloc _ _
  have hc57 := hc6.trans hc67
  have hP : ReadsP w1 B H5 D (fun y => ∃ i, Tells n z i y) o.vol o.seq o.epoch 0 w7 :=
    ⟨⟨fun _ => 0, (hc57.block H5 (blk_lt HV5.out.cx) (fun f => f)).trans HV5.out.cx, fun y _ c hc => absurd hc (Nat.not_lt_zero c)⟩, by rw [hw7, hD]; exact heap_alloc_new w6 _, ⟨x, o.len, o.z, hin.gr hc67, by rw [HO.out]; exact BackTo.first (fun y hy => hy) V⟩, HC5.out.trans hc57⟩
  have HE := Lib.hid (seach_any 57 (Or.inr rfl) D H5 (ReadsP w1 B H5 D (fun y => ∃ i, Tells n z i y) o.vol o.seq o.epoch) w7 hP ReadsP.gr
    (fun j hj wr G h hG => h.step (Nat.le_trans HC5.out.size hB) HH5.out (fun y ⟨i, hy⟩ => (sokB_iff.1 hy.sec).1) hj wr G hG))
  clear hin hB hc6 hc67 hc57 hP HN
  go_wp2_with fail
  rw [← hw7, ← hD]
  clear hw7 hD
  refine HE.out.mono ?_
  rintro e w8 ⟨rfl, ⟨V9, v1, v2⟩, _, _, p4⟩
  have hx8 := (p4.block H (blk_lt (o := .cells (supC sp0) 25 (0, 0)) HZ.out.cx) (fun f => f)).trans HZ.out.cx
  obtain ⟨w9, h9⟩ := stS (spOf o.vol o.seq o.epoch V9) hx8
  have HL := Lib.hid (load_su v1)
  have HFIN := Lib.hid (show (∀ i y, Tells n z i y → spOf o.vol o.seq o.epoch V9 = y) ∧ Ch (fun _ => False) w w9 from ⟨fun i y hy => by
    have s := hy.back V
    rw [← openB_yes hy.opens V, ← HO.out] at s
    exact spOf_eq s.vol s.seq s.epoch (fun c hc => v2 y ⟨i, hy⟩ c hc), (HZ.out.ch.trans p4).new (h9.ch.mono fun i _ hi => by rw [hi, ← HZ.out.sz]; exact Nat.le_refl _)⟩)
  have H9 := Lib.hid h9
  clear v1 v2 p4 hx8 h9
  go_wp2_with (first
    | ((with_reducible refine wpList_isOp (.load 25 (.tmp 5)) rfl ?_); refine wpList_loading _ rfl 25 (.tmp 5) rfl (.agg (supC (spOf o.vol o.seq o.epoch V9))) ⟨H5, 0, none⟩ rfl (by exact HL.out) ?_)
    | ((with_reducible refine wpList_isOp (.store 25 (.tmp 2) (.tmp 24)) rfl ?_); refine wpList_storing _ w9 rfl 25 (.tmp 2) (.tmp 24) rfl (.agg (supC (spOf o.vol o.seq o.epoch V9))) ⟨H, 0, none⟩ rfl rfl (by exact H9.out.st) ?_)
    | fail)
  exact bodyPost_ret (v := .agg (supC (spOf o.vol o.seq o.epoch V9))) (results_cell_row Try.results30 _ _ H 25 (supC (spOf o.vol o.seq o.epoch V9)) (0, 0) _ rfl H9.out.cx Try.underlying25 rfl size_su) rfl ⟨_, rfl, HFIN.out.1, HFIN.out.2⟩
#print axioms sread_any

/-! ### Told -/
def TellPost (n : Nat) (z : Nat → Nat) (i : Int) (w : World) (e : Ending) (w' : World) : Prop :=
  ∃ o, TellS n z i o ∧ e = .returned (.tuple #[.agg (supC (optS o)), .bool o.isSome]) ∧ Ch (fun _ => False) w w'
theorem tell_no {n : Nat} {z : Nat → Nat} {i : Int} {x : Sp} (h : ∀ i y, Tells n z i y → x = y) (hn : ¬ Tells n z i x) : TellS n z i none := fun y =>
  ⟨fun q => (by cases q), fun q => absurd (by rw [h i y q]; exact q) hn⟩
theorem tell_yes {n : Nat} {z : Nat → Nat} {i : Int} {x : Sp} (h : ∀ i y, Tells n z i y → x = y) (hx : Tells n z i x) : TellS n z i (some x) := fun y =>
  ⟨fun q => by injection q with q; rw [← q]; exact hx, fun q => by rw [h i y q]⟩
set_option maxHeartbeats 3200000 in
theorem stold_any (A : Option Addr) (n C : Nat) (z : Nat → Nat) (i : Int) (w : World) (h : RowV w (.slice A n C) n z) : Calls Try.prog 12 #[.slice A n C, .int .i64 i] w (TellPost n z i w) := by
  obtain ⟨w1, H, hZ⟩ := zeS w
  have HZ := Lib.hid hZ
  have HV1 := Lib.hid (h.gr hZ.ch)
  clear hZ h
  go_enter Try.func12, Try.ntmps12
  go_wp2_with ((with_reducible refine wpList_isOp (.alloc 25) rfl ?_); refine wpList_making _ w1 rfl 25 rfl (supC sp0) H (zero_su _) (by exact HZ.out.sz) (by exact HZ.out.al) ?_)
  refine (sread_any A n C z _ HV1.out).mono ?_
  rintro e w2 ⟨x, rfl, hx, hc2⟩
  obtain ⟨wz, w3, H3, hV3⟩ := varS x w2
  have HL := Lib.hid (load_su hV3.cx)
  have HS := Lib.hid (ssector_any x i w3)
  have HC3 := Lib.hid (hc2.trans hV3.ch)
  have HX := Lib.hid hx
  have HV3 := Lib.hid hV3
  clear hx hc2 hV3
  go_wp2_with (first
    | ((with_reducible refine wpList_isOp (.alloc 25) rfl ?_); refine wpList_making _ wz rfl 25 rfl (supC sp0) H3 (zero_su _) (by exact HV3.out.sz) (by exact HV3.out.al) ?_)
    | ((with_reducible refine wpList_isOp (.store 25 (.tmp 6) (.tmp 10)) rfl ?_); refine wpList_storing _ w3 rfl 25 (.tmp 6) (.tmp 10) rfl (.agg (supC x)) ⟨H3, 0, none⟩ rfl rfl (by exact HV3.out.st) ?_)
    | ((with_reducible refine wpList_isOp (.load 25 (.tmp 6)) rfl ?_); refine wpList_loading _ rfl 25 (.tmp 6) rfl (.agg (supC x)) ⟨H3, 0, none⟩ rfl (by exact HL.out) ?_)
    | fail)
  refine HS.out.mono ?_
  rintro e w4 ⟨A4, C4, rfl, ho4, hc4⟩
  have HC4 := Lib.hid (HC3.out.trans hc4)
  have hx4 := ((HC4.out).block H (blk_lt (o := .cells (supC sp0) 25 (0, 0)) HZ.out.cx) (fun f => f)).trans HZ.out.cx
  have hl4 := (hc4.block H3 (blk_lt HV3.out.cx) (fun f => f)).trans HV3.out.cx
  have HL4 := Lib.hid (load_su hl4)
  obtain ⟨wn, hn⟩ := stS sp0 hx4
  obtain ⟨wy, hy⟩ := stS x hx4
  have HHW := Lib.hid (show w.heap.size ≤ H by rw [HZ.out.sz]; exact Nat.le_refl _)
  have HPN := Lib.hid (show ¬ Tells n z i x → TellPost n z i w (.returned (.tuple #[.agg (supC sp0), .bool false])) wn from fun q => ⟨none, tell_no HX.out q, rfl, (HZ.out.ch.trans HC4.out).new (hn.ch.mono fun i _ hi => by rw [hi]; exact HHW.out)⟩)
  have HPY := Lib.hid (show Tells n z i x → TellPost n z i w (.returned (.tuple #[.agg (supC x), .bool true])) wy from fun q => ⟨some x, tell_yes HX.out q, rfl, (HZ.out.ch.trans HC4.out).new (hy.ch.mono fun i _ hi => by rw [hi]; exact HHW.out)⟩)
  have HN := Lib.hid hn
  have HY := Lib.hid hy
  have HV4 := Lib.hid (HV1.out.gr HC4.out)
  have HR4 := Lib.hid (ownsRow_rowV ho4 (by unfold secN; split <;> omega) (sectS_b _))
  have HBN := Lib.hid (build_su w4)
  clear ho4 hc4 hx4 hl4 hn hy
  cases hs : sokB x i
  · have HE : secE x i = 1 := by unfold secE; rw [hs]; rfl
    have HT := Lib.hid (HPN.out fun q => by have := q.sec; rw [hs] at this; cases this)
    rw [HE]
    clear hs HE HR4
    go_wp2_with (first
      | ((with_reducible refine wpList_isOp (.build 25 #[]) rfl ?_); refine wpList_building _ rfl 25 #[] rfl _ (by exact HBN.out) ?_)
      | ((with_reducible refine wpList_isOp (.store 25 (.tmp 4) (.tmp 25)) rfl ?_); refine wpList_storing _ wn rfl 25 (.tmp 4) (.tmp 25) rfl (.agg (supC sp0)) ⟨H, 0, none⟩ rfl rfl (by exact HN.out.st) ?_)
      | fail)
    exact bodyPost_ret (v := .tuple #[.agg (supC sp0), .bool false]) (results_su Try.results12 _ _ H sp0 rfl HN.out.cx) rfl HT.out
  · have HE : secE x i = 0 := by unfold secE; rw [hs]; rfl
    have HQ := Lib.hid (show secN x i = 256 by unfold secN; rw [hs]; rfl)
    have HSK := Lib.hid hs
    rw [HE]
    clear hs HE
    go_wp2_with fail
    refine (equal_any _ _ _ _ _ _ _ _ _ HR4.out HV4.out).mono ?_
    rintro e w5 ⟨rfl, rfl⟩
    cases hq : eqB (secN x i) n (sectS x i) z
    · have HT := Lib.hid (HPN.out fun q => by
        have := decide_eq_false_iff_not.1 hq
        exact this ⟨by rw [HQ.out, q.n], fun c hc => (q.z c (by rw [HQ.out] at hc; exact hc)).symm⟩)
      clear hq
      go_wp2_with (first
        | ((with_reducible refine wpList_isOp (.build 25 #[]) rfl ?_); refine wpList_building _ rfl 25 #[] rfl _ (by exact HBN.out) ?_)
        | ((with_reducible refine wpList_isOp (.store 25 (.tmp 4) (.tmp 25)) rfl ?_); refine wpList_storing _ wn rfl 25 (.tmp 4) (.tmp 25) rfl (.agg (supC sp0)) ⟨H, 0, none⟩ rfl rfl (by exact HN.out.st) ?_)
        | fail)
      exact bodyPost_ret (v := .tuple #[.agg (supC sp0), .bool false]) (results_su Try.results12 _ _ H sp0 rfl HN.out.cx) rfl HT.out
    · have HT := Lib.hid (HPY.out (by
        obtain ⟨q1, q2⟩ := of_decide_eq_true hq
        rw [HQ.out] at q1 q2
        exact ⟨HSK.out, q1.symm, fun c hc => (q2 c hc).symm⟩))
      clear hq
      go_wp2_with (first
        | ((with_reducible refine wpList_isOp (.load 25 (.tmp 6)) rfl ?_); refine wpList_loading _ rfl 25 (.tmp 6) rfl (.agg (supC x)) ⟨H3, 0, none⟩ rfl (by exact HL4.out) ?_)
        | ((with_reducible refine wpList_isOp (.store 25 (.tmp 4) (.tmp 26)) rfl ?_); refine wpList_storing _ wy rfl 25 (.tmp 4) (.tmp 26) rfl (.agg (supC x)) ⟨H, 0, none⟩ rfl rfl (by exact HY.out.st) ?_)
        | fail)
      exact bodyPost_ret (v := .tuple #[.agg (supC x), .bool true]) (results_su Try.results12 _ _ H x rfl HY.out.cx) rfl HT.out
#print axioms stold_any
end Go.Proofs.Ytjdknebifcdicaa
