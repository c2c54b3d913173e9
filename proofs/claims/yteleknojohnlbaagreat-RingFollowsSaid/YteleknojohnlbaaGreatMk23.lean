/-
  ring.read and Told, walked. Rows of structs of one's own (pieces, links, rows of bytes): each of so many cells, one of which is a row of bytes of its own.
-/
import Derived.Test.YteleknojohnlbaaGreatMk22
import Derived.Test.YteleknojohnlbaaGreatMk20
import Derived.Test.YteleknojohnlbaaGreatMk15
import Derived.Test.YteleknojohnlbaaGreatMk11
import Derived.Test.YteleknojohnlbaaGreatMk4
namespace Go.Proofs.YteleknojohnlbaaGreat
open Go.RowKit
set_option linter.unusedVariables false
set_option maxRecDepth 100000
theorem RowN.congr {w wr : World} {u : Value} {n : Nat} {z y : Nat → Nat} (h : RowN w wr u n z) (e : ∀ c, c < n → z c = y c) : RowN w wr u n y := by
  obtain ⟨A, C, h1, h2, h3⟩ := h
  exact ⟨A, C, h1, h2, h3.imp id fun ⟨sb, so, q⟩ => ⟨sb, so, ⟨q.eq, q.row.congr e, q.blk, q.lo⟩⟩⟩
theorem RowN.low {w0 w wr : World} {u : Value} {n : Nat} {z : Nat → Nat} (h : RowN w wr u n z) (k : w0.heap.size ≤ w.heap.size) : RowN w0 wr u n z := by
  obtain ⟨A, C, h1, h2, h3⟩ := h
  exact ⟨A, C, h1, h2, h3.imp id fun ⟨sb, so, q⟩ => ⟨sb, so, ⟨q.eq, q.row, q.blk, Nat.le_trans k q.lo⟩⟩⟩
theorem RowN.gr {w wr w' : World} {u : Value} {n : Nat} {z : Nat → Nat} (h : RowN w wr u n z) (k : Ch (fun _ => False) wr w') : RowN w w' u n z := h.ch k fun _ f => f.elim
theorem RowN.nil (w wr : World) (z : Nat → Nat) : RowN w wr (.slice none 0 0) 0 z := ⟨none, 0, rfl, Nat.le_refl _, Or.inl rfl⟩
theorem RowN.set {w wr w' : World} {u : Value} {n H : Nat} {z : Nat → Nat} {c : Array Value} {t : TypeId} (h : RowN w wr u n z) (k : Ch (fun i => i = H) wr w') (hH : wr.heap[H]? = some (.cells c t (0, 0))) (ht : t ≠ /-t-/5) : RowN w w' u n z :=
  h.ch k fun i e _ ⟨c2, hc2⟩ => by rw [e] at hc2; exact cells_ne hH hc2 ht rfl
theorem RowN.len {w wr : World} {u : Value} {n : Nat} {z : Nat → Nat} (h : RowN w wr u n z) : ∃ A C, u = .slice A n C := by obtain ⟨A, C, h1, _⟩ := h; exact ⟨A, C, h1⟩
theorem bL_le (n : Nat) (z : Nat → Nat) (k e : Nat) : bL n z k e ≤ 4096 := by
  by_cases h : bE n z k e = 0
  · have := b_ok h; omega
  · rw [(b_bad h).1]; omega
theorem rowL_litz (n : Nat) (z : Nat → Nat) {c : Nat} (h : c < n) : Cod.litZ (rowL n z) c = z c := Cod.litZ_range n z h
theorem pcC_cell (p : Pn) {V : Value} (hV : SlV V) {o : Nat} {v : Value} (h : (pcC p V)[o]? = some v) (k : Int) : v ≠ .int .u8 k := by
  have ho : o < 7 := by have := (Array.getElem?_eq_some_iff.1 h).1; exact this
  obtain ⟨A, n, C, rfl⟩ := hV
  match o, ho with
  | 0, _ | 1, _ | 2, _ | 3, _ | 4, _ | 5, _ | 6, _ => intro e; rw [e] at h; cases h
theorem off_pc {w : World} {H n : Nat} {p : Pn} {V x : Value} {z : Nat → Nat} (hV : SlV V) (h : w.heap[H]? = some (.cells (pcC p V) 26 (0, 0))) (hr : RowV w x n z) : Off (fun i => i = H) x := fun b o m C e hb => by
  obtain ⟨A, D, e1, _, h3⟩ := hr
  rw [e] at e1
  injection e1 with e1 e2 _
  obtain ⟨b', o', e4, hc⟩ := h3 (by omega)
  rw [← e1] at e4
  injection e4 with e4
  injection e4 with e5 e6
  have h0 := (hc 0 (by omega)).1
  rw [← e5, hb, blk_cell h] at h0
  exact pcC_cell p hV h0 _ rfl
theorem pcC_set (s e : Int) (V : Nat → Int) (L : List Nat) (U : Value) {j : Nat} (hj : j < 4) (k : Int) : (pcC (pnOf s e V L) U).setIfInBounds (2 + j) (.int .i64 k) = pcC (pnOf s e (up V j k) L) U := by
  match j, hj with
  | 0, _ | 1, _ | 2, _ | 3, _ => rfl
structure ReadsR (w : World) (B H : Nat) (Y : Pn → Prop) (s e : Int) (j : Nat) (wr : World) : Prop where
  var : ∃ V, wr.heap[H]? = some (.cells (pcC (pnOf s e V []) (.slice none 0 0)) 26 (0, 0)) ∧ ∀ y, Y y → ∀ c, c < j → V c = numR y c
  inp : ∃ x n z, InIs wr B x n z ∧ BackR Y j n z ∧ n ≤ 228
  ch : Ch (fun _ => False) w wr
theorem ReadsR.gr {w : World} {B H : Nat} {Y : Pn → Prop} {s e : Int} {j : Nat} {wr w' : World} (h : ReadsR w B H Y s e j wr) (k : Ch (fun _ => False) wr w') : ReadsR w B H Y s e j w' := by
  obtain ⟨⟨V, h1, h2⟩, ⟨x, n, z, h4, h5, h7⟩, h6⟩ := h
  exact ⟨⟨V, (k.block H (blk_lt h1) (fun f => f)).trans h1, h2⟩, ⟨x, n, z, h4.gr k, h5, h7⟩, h6.trans k⟩
theorem ReadsR.step {w : World} {B H : Nat} {Y : Pn → Prop} {s e : Int} (hB : w.heap.size ≤ B) (hH : w.heap.size ≤ H) (hY : ∀ y, Y y → mayP y = true) {j : Nat} (hj : j < 4) {wr : World} {G : Nat} (h : ReadsR w B H Y s e j wr)
    (hG : wr.heap[G]? = some (.cells (ptr4 H) 136 (0, 0))) :
    Calls Tryz.prog 84 #[.pointer (some ⟨B, 0, none⟩)] wr fun en w' => ∃ v E c, en = .returned (.tuple #[.int .i64 v, .int .i64 E]) ∧ w'.cell? ⟨H, 2 + j, none⟩ = some c ∧ w'.frozen? ⟨H, 2 + j, none⟩ = false ∧
      ReadsR w B H Y s e (j + 1) (w'.setCell ⟨H, 2 + j, none⟩ (.int .i64 v)) ∧ (w'.setCell ⟨H, 2 + j, none⟩ (.int .i64 v)).heap[G]? = some (.cells (ptr4 H) 136 (0, 0)) := by
  obtain ⟨⟨V, h1, h2⟩, ⟨x, n, z, h4, h5, h7⟩, h6⟩ := h
  have hb : wr.heap[B]? = some (.cells #[x] 172 (0, 0)) := h4.box
  have nHB : H ≠ B := cells_ne h1 hb (by decide)
  have nGB : G ≠ B := cells_ne hG hb (by decide)
  have nGH : G ≠ H := cells_ne hG h1 (by decide)
  obtain ⟨k, en, hr⟩ := Cod.rd_some n z
  refine (inum_any B n x z k en wr h4 hr).mono ?_
  rintro e' w1 ⟨rfl, x', q1, q2, q3⟩
  obtain ⟨b1, b2⟩ := h5.next hj hY hr
  have g1 := (q3.block H (blk_lt h1) nHB).trans h1
  have kset := Ch.setCell (S := fun i => i = H) (Ch.refl _ w1) (p := ⟨H, 2 + j, none⟩) (Or.inl rfl) (.int .i64 (Cod.resV T63 z k en : Int))
  have e1 := blk_set (i := 2 + j) g1 (.int .i64 (Cod.resV T63 z k en : Int))
  rw [pcC_set s e V [] (.slice none 0 0) hj] at e1
  have gG := (q3.block G (blk_lt hG) nGB).trans hG
  refine ⟨_, _, _, rfl, numR_cell g1 hj, blk_frozen g1, ⟨⟨_, e1, fun y hy c hc => ?_⟩, ⟨x', _, _, q1.ch kset (fun q => nHB q.symm) (off_pc slV_nil g1 q1.row), b1, by omega⟩, ?_⟩, (kset.block G (blk_lt gG) nGH).trans gG⟩
  · by_cases q : c = j
    · subst q
      rw [up_same]
      exact (b2 y hy).2
    · rw [up_other _ _ q]
      exact h2 y hy c (by omega)
  · exact (h6.new (q3.mono fun i _ hi => by rw [hi]; exact hB)).new (kset.mono fun i _ hi => by rw [hi]; exact hH)
theorem built_pc (s e : Int) (w : World) : (Instr.build 26 #[(0, .int .i64 s), (1, .int .i64 e)]).run Tryz.prog w = .ok (.agg (pcC (pnOf s e (fun _ => 0) []) (.slice none 0 0))) w := run_build w _ _ _ (by kernel_rfl)
def ReadPostR (n : Nat) (z : Nat → Nat) (w : World) (e : Ending) (w' : World) : Prop :=
  ∃ p V, e = .returned (.agg (pcC p V)) ∧ RowN w w' V p.B.length (Cod.litZ p.B) ∧ (∀ x ∈ p.B, x < 256) ∧ (∀ vol g mir slot y, TellsR n z vol g mir slot y → p = y) ∧ Ch (fun _ => False) w w'
set_option maxHeartbeats 6400000 in
theorem rread_any (A : Option Addr) (n C : Nat) (z : Nat → Nat) (w : World) (h : RowV w (.slice A n C) n z) : Calls Tryz.prog 48 #[.slice A n C] w (ReadPostR n z w) := by
  obtain ⟨w1, H, hZ⟩ := zePc w
  have HZ := Lib.hid hZ
  have HV1 := Lib.hid (h.gr hZ.ch)
  clear hZ h
  go_enter Tryz.func48, Tryz.ntmps48
  go_wp2_with ((with_reducible refine wpList_isOp (.alloc 26) rfl ?_); refine wpList_making _ w1 rfl 26 rfl (pcC pn0 (.slice none 0 0)) H (zero_pc _) (by exact HZ.out.sz) (by exact HZ.out.al) ?_)
  refine (bopen_any A n C z _ HV1.out).mono ?_
  rintro e w2 ⟨V, rfl, hb2, hc2⟩
  obtain ⟨o, ho⟩ : ∃ o, o = openB n z V := ⟨_, rfl⟩
  obtain ⟨E, hE⟩ : ∃ E, E = openQ n z := ⟨_, rfl⟩
  rw [← ho] at hb2
  rw [← ho, ← hE]
  obtain ⟨w3, H3, hZ3⟩ := zeR w2
  obtain ⟨A', C', hoV, _⟩ := id hb2.row
  obtain ⟨w4, h4⟩ := stR (b := o) hZ3.cx ⟨_, _, _, hoV⟩
  have hc4 : Ch (fun _ => False) w2 w4 := hZ3.ch.over h4.ch (by rw [hZ3.sz]; exact Nat.le_refl _)
  have c3 : w4.cell? ⟨H3, 3, none⟩ = some (.int .i64 o.epoch) := blk_cell h4.cx
  have c4 : w4.cell? ⟨H3, 4, none⟩ = some (.int .i64 o.seq) := blk_cell h4.cx
  obtain ⟨wz, w5, H5, hV5⟩ := varPc (pnOf o.seq o.epoch (fun _ => 0) []) slV_nil w4
  have c5 : w5.cell? ⟨H3, 5, none⟩ = some (.slice A' o.len C') := by
    have := hV5.ch.cell (p := ⟨H3, 5, none⟩) (v := o.V) (blk_cell h4.cx) (fun f => f)
    rw [hoV] at this
    exact this
  have hrow := (hb2.row.gr hc4).gr hV5.ch
  rw [hoV] at hrow
  have hol : o.len ≤ 228 := by rw [ho]; exact open_len
  have HN := Lib.hid (newIn_any A' o.len C' o.z w5 hrow (by omega))
  have HC5 := Lib.hid ((hc2.trans hc4).trans hV5.ch)
  have HH5 := Lib.hid (show w1.heap.size ≤ H5 by rw [← hV5.sz]; exact (hc2.trans hc4).size)
  have HZ3 := Lib.hid hZ3
  have H4 := Lib.hid h4
  have HV5 := Lib.hid hV5
  have HO := Lib.hid ho
  have HOL := Lib.hid hol
  have HBS := Lib.hid (built_pc o.seq o.epoch w4)
  clear hb2 hc2 hc4 hZ3 h4 hV5 hrow hol hE hoV ho
  go_wp2_with (first
    | ((with_reducible refine wpList_isOp (.alloc 80) rfl ?_); refine wpList_making _ w3 rfl 80 rfl (bkC bk0) H3 (zero_bk _) (by exact HZ3.out.sz) (by exact HZ3.out.al) ?_)
    | ((with_reducible refine wpList_isOp (.store 80 (.tmp 3) (.tmp 12)) rfl ?_); refine wpList_storing _ w4 rfl 80 (.tmp 3) (.tmp 12) rfl (.agg (bkC o)) ⟨H3, 0, none⟩ rfl rfl (by exact H4.out.st) ?_)
    | ((with_reducible refine wpList_isOp (.build 26 #[(0, .tmp 15), (1, .tmp 17)]) rfl ?_); refine wpList_building _ rfl 26 #[(0, .tmp 15), (1, .tmp 17)] rfl _ (by exact HBS.out) ?_)
    | ((with_reducible refine wpList_isOp (.alloc 26) rfl ?_); refine wpList_making _ wz rfl 26 rfl (pcC pn0 (.slice none 0 0)) H5 (zero_pc _) (by exact HV5.out.sz) (by exact HV5.out.al) ?_)
    | ((with_reducible refine wpList_isOp (.store 26 (.tmp 5) (.tmp 18)) rfl ?_); refine wpList_storing _ w5 rfl 26 (.tmp 5) (.tmp 18) rfl (.agg (pcC (pnOf o.seq o.epoch (fun _ => 0) []) (.slice none 0 0))) ⟨H5, 0, none⟩ rfl rfl (by exact HV5.out.st) ?_)
    | fail)
  refine HN.out.mono ?_
  rintro e w6 ⟨B, x, rfl, hin, hB, hc6⟩
  have hP : ReadsR w1 B H5 (fun y => ∃ vol g mir slot, TellsR n z vol g mir slot y) o.seq o.epoch 0 w6 :=
    ⟨⟨fun _ => 0, (hc6.block H5 (blk_lt HV5.out.cx) (fun f => f)).trans HV5.out.cx, fun y _ c hc => absurd hc (Nat.not_lt_zero c)⟩, ⟨x, o.len, o.z, hin, by rw [HO.out]; exact BackR.first (fun y hy => hy) V, HOL.out⟩, HC5.out.trans hc6⟩
  have HP6 := Lib.hid hP
  have HBB := Lib.hid (Nat.le_trans HC5.out.size hB)
  have HY := Lib.hid (fun (y : Pn) (hy : ∃ vol g mir slot, TellsR n z vol g mir slot y) => by obtain ⟨_, _, _, _, hy⟩ := hy; exact hy.may)
  clear hin hB hc6 hP HN c3 c4 c5
  go_wp2_with fail
  refine (rnumbers4_any H5 w6).mono ?_
  rintro e w7 ⟨G, rfl, hg, hc7⟩
  have HP7 := Lib.hid (HP6.out.gr hc7)
  have HG7 := Lib.hid hg
  clear hg hc7
  go_wp2
  go_loopw [8, 24, 25, 26, 27, 28, 29, 30, 31, 32, 33, 34, 35] (fun _ i _ _ _ _ _ _ _ _ _ _ _ wr => ∃ k : Nat, k ≤ 4 ∧ i = .int .i64 k ∧ Hid (ReadsR w1 B H5 (fun y => ∃ vol g mir slot, TellsR n z vol g mir slot y) o.seq o.epoch k wr) ∧ Hid (wr.heap[G]? = some (.cells (ptr4 H5) 136 (0, 0)))) (fun _ i _ _ _ _ _ _ _ _ _ _ _ _ => 4 - (intOf i).toNat)
  case atStart => exact ⟨0, Nat.zero_le _, rfl, HP7, HG7⟩
  case round =>
    obtain ⟨k, hk, rfl, HP, HGR⟩ := hrel
    by_cases hlt : k < 4
    · have i1 : (0 : Int) ≤ (k : Int) := Int.natCast_nonneg _
      have i2 : (k : Int) < 4 := by omega
      have hcell : wr.cell? ⟨G, k, none⟩ = some (.pointer (some ⟨H5, 2 + k, none⟩)) := by rw [blk_cell HGR.out]; exact ptr4_cells H5 hlt
      have HS := Lib.hid (HP.out.step HBB.out HH5.out HY.out hlt HGR.out)
      have HLT := Lib.hid hlt
      clear hlt
      obtain ⟨f, hf⟩ : ∃ f, f = 2 + k := ⟨_, rfl⟩
      rw [← hf] at hcell HS
      clear hf
      go_wp2_with fail
      refine HS.out.mono ?_
      rintro e w8 ⟨v, E8, c8, rfl, q1, q2, q3, q4⟩
      have HP8 := Lib.hid q3
      have HG8 := Lib.hid q4
      clear q3 q4 hcell
      go_wp2
      go_roundw
      case rel => exact ⟨k + 1, HLT.out, by go_num, HP8, HG8⟩
      case measure => have := HLT.out; simp [intOf]; omega
    · obtain rfl : k = 4 := by omega
      obtain ⟨⟨V9, v1, v2⟩, ⟨x9, n9, z9, hi9, hb9, hn9⟩, p4⟩ := HP.out
      obtain ⟨k9, e9, hr9⟩ := Cod.rd_some n9 z9
      have hbx : wr.heap[B]? = some (.cells #[x9] 172 (0, 0)) := hi9.box
      have nHB : H5 ≠ B := cells_ne v1 hbx (by decide)
      have HI := Lib.hid (ibytes_any B n9 x9 z9 k9 e9 wr hi9 hr9 (by omega))
      have HLA := Lib.hid (hb9.last HY.out hr9)
      have HNB := Lib.hid nHB
      have HV9 := Lib.hid v1
      have HV2 := Lib.hid v2
      have HP4 := Lib.hid p4
      have hsz := blk_lt v1
      clear hlt hk hi9 hb9 hr9 hbx v1 v2 p4 nHB hsz
      rw [show ((4 : Nat) : Int) = 4 from rfl]
      go_wp2_with fail
      refine HI.out.mono ?_
      rintro e wB ⟨y, rfl, hy, hyo, _, _, _, hcB⟩
      obtain ⟨L, hL⟩ : ∃ L, L = rowL (bL n9 z9 k9 e9) (fun i => z9 (Cod.resK T63 z9 k9 e9 + i)) := ⟨_, rfl⟩
      have hLl : L.length = bL n9 z9 k9 e9 := by rw [hL]; exact rowL_len _ _
      have hvB := (hcB.block H5 (blk_lt HV9.out) HNB.out).trans HV9.out
      have hN : RowN w1 wB y L.length (Cod.litZ L) := by
        have := RowN.own (w := w1) hyo (by have := bL_le n9 z9 k9 e9; omega) hy.bytes HP4.out.size
        rw [hLl]
        exact this.congr fun c hc => by rw [hL]; exact (rowL_litz _ (fun i => z9 (Cod.resK T63 z9 k9 e9 + i)) hc).symm
      have hbL : ∀ c ∈ L, c < 256 := by rw [hL]; exact rowL_b hy.bytes
      have hch : Ch (fun _ => False) w1 wB := HP4.out.new (hcB.mono fun i _ hi => by rw [hi]; exact HBB.out)
      have hc6 : wB.cell? ⟨H5, 6, none⟩ = some (.slice none 0 0) := blk_cell hvB
      have hf6 : wB.frozen? ⟨H5, 6, none⟩ = false := blk_frozen hvB
      obtain ⟨wC, hwC⟩ : ∃ wC, wC = wB.setCell ⟨H5, 6, none⟩ y := ⟨_, rfl⟩
      have kset : Ch (fun i => i = H5) wB wC := by rw [hwC]; exact Ch.setCell (S := fun i => i = H5) (Ch.refl _ wB) (p := ⟨H5, 6, none⟩) (Or.inl rfl) y
      have hvC : wC.heap[H5]? = some (.cells (pcC (pnOf o.seq o.epoch V9 L) y) 26 (0, 0)) := by rw [hwC]; exact blk_set (i := 6) hvB y
      have hNC := hN.set kset hvB (by decide)
      have hchC : Ch (fun _ => False) w1 wC := hch.new (kset.mono fun i _ hi => by rw [hi]; exact HH5.out)
      have hxC := (hchC.block H (blk_lt (o := .cells (pcC pn0 (.slice none 0 0)) 26 (0, 0)) HZ.out.cx) (fun f => f)).trans HZ.out.cx
      have hyS : SlV y := by obtain ⟨A, C, e⟩ := hNC.len; exact ⟨_, _, _, e⟩
      obtain ⟨wD, hD⟩ := stPc (pnOf o.seq o.epoch V9 L) hxC hyS
      have HFIN := Lib.hid (show ReadPostR n z w (.returned (.agg (pcC (pnOf o.seq o.epoch V9 L) y))) wD from ⟨_, y, rfl, (hNC.set hD.ch hxC (by decide)).low HZ.out.ch.size, hbL, fun vol g mir slot y' hy' => by
        have s := hy'.back V
        rw [← openB_yes hy'.opens V, ← HO.out] at s
        obtain ⟨_, hl2⟩ := HLA.out y' ⟨vol, g, mir, slot, hy'⟩
        exact pnOf_eq s.seq s.epoch (fun c hc => HV2.out y' ⟨vol, g, mir, slot, hy'⟩ c hc) (hL.trans hl2), (HZ.out.ch.trans hchC).new (hD.ch.mono fun i _ hi => by rw [hi, ← HZ.out.sz]; exact Nat.le_refl _)⟩)
      have HLD := Lib.hid (load_pc hvC)
      have HD := Lib.hid hD
      have HWC := Lib.hid hwC
      obtain ⟨E9, hE9⟩ : ∃ E9, E9 = bE n9 z9 k9 e9 := ⟨_, rfl⟩
      obtain ⟨ya, yn, yc, rfl⟩ := hyS
      rw [← hE9]
      clear hy hyo hcB hL hLl hvB hN hbL hch kset hvC hNC hchC hxC hD hwC hE9
      go_wp2_with (first
        | (with_reducible (rw [← HWC.out]; ((with_reducible refine wpList_isOp (.load 26 (.tmp 5)) rfl ?_); refine wpList_loading _ rfl 26 (.tmp 5) rfl (.agg (pcC (pnOf o.seq o.epoch V9 L) (.slice ya yn yc))) ⟨H5, 0, none⟩ rfl (by exact HLD.out) ?_)))
        | ((with_reducible refine wpList_isOp (.load 26 (.tmp 5)) rfl ?_); refine wpList_loading _ rfl 26 (.tmp 5) rfl (.agg (pcC (pnOf o.seq o.epoch V9 L) (.slice ya yn yc))) ⟨H5, 0, none⟩ rfl (by exact HLD.out) ?_)
        | ((with_reducible refine wpList_isOp (.store 26 (.tmp 2) (.tmp 42)) rfl ?_); refine wpList_storing _ wD rfl 26 (.tmp 2) (.tmp 42) rfl (.agg (pcC (pnOf o.seq o.epoch V9 L) (.slice ya yn yc))) ⟨H, 0, none⟩ rfl rfl (by exact HD.out.st) ?_)
        | fail)
      exact bodyPost_ret (v := .agg (pcC (pnOf o.seq o.epoch V9 L) (.slice ya yn yc))) (results_cell_row Tryz.results48 _ _ H 26 (pcC (pnOf o.seq o.epoch V9 L) (.slice ya yn yc)) (0, 0) _ rfl HD.out.cx Tryz.underlying26 rfl size_pc) rfl HFIN.out
end Go.Proofs.YteleknojohnlbaaGreat
namespace Go.Proofs.YteleknojohnlbaaGreat
open Go.RowKit
set_option linter.unusedVariables false
set_option maxRecDepth 100000
structure Kd where
  T : TypeId
  S : TypeId
  k : Nat
  by' : Nat
  z : Value
structure Kd.Ok (K : Kd) : Prop where
  un : Tryz.prog.underlying K.S = some (.slice K.T)
  inf : (Tryz.prog.info? K.T).map (fun i => (i.zero, i.size, i.bytes)) = some (some K.z, K.k, K.by')
  zk : K.z.cells.size = K.k
  k0 : 0 < K.k
  b0 : K.by' ≤ 128
  nb : K.T ≠ /-t-/5
structure El (α : Type) where
  f : α → List Value
  V : α → Value
  B : α → List Nat
structure El.Ok {α : Type} (E : El α) (K : Kd) (x : α) : Prop where
  len : (E.f x).length = K.k
  one : ∀ u ∈ E.f x, u.oneCell' = true
def cellsO {α : Type} (E : El α) (L : List α) : List Value := L.flatMap E.f
section
variable {α : Type} {E : El α} {K : Kd}
theorem cellsO_snoc (L : List α) (x : α) : cellsO E (L ++ [x]) = cellsO E L ++ E.f x := by simp [cellsO]
theorem cellsO_get : ∀ {L : List α} {i : Nat} {x : α}, (∀ y ∈ L, (E.f y).length = K.k) → L[i]? = some x → ∀ j u, (E.f x)[j]? = some u → (cellsO E L)[i * K.k + j]? = some u
  | [], i, x, _, h, _, _, _ => by simp at h
  | y :: L, 0, x, hl, h, j, u, hu => by
    simp only [List.getElem?_cons_zero, Option.some.injEq] at h
    subst h
    show (E.f y ++ cellsO E L)[0 * K.k + j]? = _
    have hj : j < (E.f y).length := (List.getElem?_eq_some_iff.1 hu).1
    rw [Nat.zero_mul, Nat.zero_add, List.getElem?_append_left hj]
    exact hu
  | y :: L, i + 1, x, hl, h, j, u, hu => by
    rw [List.getElem?_cons_succ] at h
    show (E.f y ++ cellsO E L)[(i + 1) * K.k + j]? = _
    have hy := hl y (List.mem_cons_self ..)
    rw [List.getElem?_append_right (by rw [hy, Nat.add_mul]; omega), hy, show (i + 1) * K.k + j - K.k = i * K.k + j by rw [Nat.add_mul]; omega]
    exact cellsO_get (fun z hz => hl z (List.mem_cons_of_mem _ hz)) h j u hu
structure ByN (E : El α) (w wr : World) (x : α) : Prop where
  row : RowN w wr (E.V x) (E.B x).length (Cod.litZ (E.B x))
  byt : ∀ c ∈ E.B x, c < 256
theorem ByN.gr {w wr w' : World} {x : α} (h : ByN E w wr x) (k : Ch (fun _ => False) wr w') : ByN E w w' x := ⟨h.row.gr k, h.byt⟩
theorem ByN.ch {S : Nat → Prop} {w wr w' : World} {x : α} (h : ByN E w wr x) (k : Ch S wr w') (hS : ∀ i, S i → w.heap.size ≤ i → ¬ ∃ c, wr.heap[i]? = some (.cells c /-t-/5 (0, 0))) : ByN E w w' x := ⟨h.row.ch k hS, h.byt⟩
theorem ByN.low {w0 w wr : World} {x : α} (h : ByN E w wr x) (k : w0.heap.size ≤ w.heap.size) : ByN E w0 wr x := ⟨h.row.low k, h.byt⟩
theorem ByN.set {w wr w' : World} {x : α} {H : Nat} {c : Array Value} {t : TypeId} (h : ByN E w wr x) (k : Ch (fun i => i = H) wr w') (hH : wr.heap[H]? = some (.cells c t (0, 0))) (ht : t ≠ /-t-/5) : ByN E w w' x := ⟨h.row.set k hH ht, h.byt⟩
structure RwO (K : Kd) (E : El α) (w wr : World) (v : Value) (L : List α) : Prop where
  own : wr.ownsRow w.heap.size K.T K.k v L.length (cellsO E L)
  ok : ∀ x ∈ L, E.Ok K x
  rows : ∀ x ∈ L, ByN E w wr x
theorem RwO.start (K : Kd) (E : El α) (w wr : World) : RwO K E w wr (.slice none 0 0) [] := ⟨World.ownsRow_nil wr w.heap.size _ _, fun x hx => (by cases hx), fun x hx => (by cases hx)⟩
theorem RwO.ch {S : Nat → Prop} {w wr w' : World} {v : Value} {L : List α} (h : RwO K E w wr v L) (g : Ch S wr w') (hS : ∀ i, S i → w.heap.size ≤ i → (¬ ∃ c, wr.heap[i]? = some (.cells c K.T (0, 0))) ∧ ¬ ∃ c, wr.heap[i]? = some (.cells c /-t-/5 (0, 0))) : RwO K E w w' v L :=
  ⟨own_of h.own fun i hi => by
    obtain ⟨hb, c, hc⟩ := own_at h.own hi
    exact g.block i (blk_lt hc) fun q => (hS i q hb).1 ⟨c, hc⟩, h.ok, fun x hx => (h.rows x hx).ch g fun i hi hb => (hS i hi hb).2⟩
theorem RwO.gr {w wr w' : World} {v : Value} {L : List α} (h : RwO K E w wr v L) (g : Ch (fun _ => False) wr w') : RwO K E w w' v L := h.ch g fun _ f => f.elim
theorem RwO.set {w wr w' : World} {v : Value} {L : List α} {H : Nat} {c : Array Value} {t : TypeId} (h : RwO K E w wr v L) (k : Ch (fun i => i = H) wr w') (hH : wr.heap[H]? = some (.cells c t (0, 0))) (ht : t ≠ /-t-/5) (ht2 : t ≠ K.T) : RwO K E w w' v L :=
  h.ch k fun i e _ => ⟨fun ⟨c2, hc2⟩ => by rw [e] at hc2; exact cells_ne hH hc2 ht2 rfl, fun ⟨c2, hc2⟩ => by rw [e] at hc2; exact cells_ne hH hc2 ht rfl⟩
theorem RwO.len {w wr : World} {v : Value} {L : List α} (h : RwO K E w wr v L) : ∃ A C, v = .slice A L.length C := by
  rcases h.own.2 with ⟨rfl, h0⟩ | ⟨g, cap, cur, rfl, _⟩
  · exact ⟨none, 0, by rw [h0]⟩
  · exact ⟨_, _, rfl⟩
theorem RwO.app (hK : K.Ok) {w wr : World} {v : Value} {L : List α} {x : α} (h : RwO K E w wr v L) (hx : E.Ok K x) (hu : ByN E w wr x) (hk : L.length ≤ 1048576) (hw : w.heap.size ≤ wr.heap.size) :
    ∃ g cap w2, (Builtin.append_ #[K.S, K.S] K.S #[v, .slice (some ⟨wr.heap.size, 0, none⟩) 1 1]).run Tryz.prog (wr.alloc (.cells (E.f x).toArray K.T)) = .ok (.slice (some ⟨g, 0, none⟩) (L.length + 1) cap) w2 ∧ RwO K E w w2 (.slice (some ⟨g, 0, none⟩) (L.length + 1) cap) (L ++ [x]) ∧ Ch (fun i => v.ownBlock = some i) wr w2 := by
  obtain ⟨i0, hi, hz0, hz1, hz2⟩ := info_parts hK.inf
  have k1 : Ch (fun _ => False) wr (wr.alloc (.cells (E.f x).toArray K.T)) := (Ch.refl _ wr).alloc _ _
  have hb0 := hK.b0
  obtain ⟨g, cap, w2, hr, h2, h3, h4, _⟩ := run_append_lies (P := Tryz.prog) (wr.alloc (.cells (E.f x).toArray K.T)) K.S K.S w.heap.size K.T i0 K.z K.k K.by' hK.un hi hz0 hz1 hz2 hK.zk hK.k0 v L.length (cellsO E L) (own_gr h.own k1) ⟨wr.heap.size, 0, none⟩ 1 1 (E.f x) (by rw [hx.len, Nat.one_mul]) (fun j u hu => by
    rw [add_pl, blk_cell (heap_alloc_new wr _), Nat.zero_add, List.getElem?_toArray]
    exact hu) hx.one (by omega) (by unfold maxLen; omega) (by have : (L.length + 1) * K.by' ≤ (L.length + 1) * 128 := Nat.mul_le_mul_left _ hb0; omega) (Nat.le_trans hw k1.size) _ rfl
  rw [← cellsO_snoc] at h2
  have k2 : Ch (fun i => v.ownBlock = some i) (wr.alloc (.cells (E.f x).toArray K.T)) w2 := (Ch.refl _ _).grown h3 (fun i hi => Or.inl hi)
  have off : ∀ i, v.ownBlock = some i → w.heap.size ≤ i → ¬ ∃ c, (wr.alloc (.cells (E.f x).toArray K.T)).heap[i]? = some (.cells c /-t-/5 (0, 0)) := fun i e _ ⟨c, hc⟩ => by
    obtain ⟨_, c2, hc2⟩ := own_at (own_gr h.own k1) e
    exact cells_ne hc2 hc hK.nb rfl
  refine ⟨g, cap, w2, hr, ⟨by rw [List.length_append]; exact h2, fun y hy => ?_, fun y hy => ?_⟩, (k1.mono fun _ _ f => f.elim).trans k2⟩
  · rcases List.mem_append.1 hy with q | q
    · exact h.ok y q
    · rw [List.mem_singleton.1 q]; exact hx
  · rcases List.mem_append.1 hy with q | q
    · exact ((h.rows y q).gr k1).ch k2 off
    · rw [List.mem_singleton.1 q]; exact (hu.gr k1).ch k2 off
structure RwV (K : Kd) (E : El α) (w : World) (A : Option Addr) (C : Nat) (L : List α) : Prop where
  le : L.length ≤ 1048576
  cap : L.length ≤ C
  at' : 0 < L.length → ∃ b o, A = some ⟨b, o, none⟩ ∧ ∀ i x, L[i]? = some x → ∀ j u, (E.f x)[j]? = some u → w.cell? ⟨b, o + i * K.k + j, none⟩ = some u
  rows : ∀ x ∈ L, RowV w (E.V x) (E.B x).length (Cod.litZ (E.B x)) ∧ ∀ c ∈ E.B x, c < 256
theorem RwV.gr {w w' : World} {A : Option Addr} {C : Nat} {L : List α} (h : RwV K E w A C L) (k : Ch (fun _ => False) w w') : RwV K E w' A C L :=
  ⟨h.le, h.cap, fun h0 => by
    obtain ⟨b, o, hA, hc⟩ := h.at' h0
    exact ⟨b, o, hA, fun i x hx j u hu => k.cell (hc i x hx j u hu) (fun f => f)⟩, fun x hx => ⟨(h.rows x hx).1.gr k, (h.rows x hx).2⟩⟩
theorem RwO.read {w wr : World} {A : Option Addr} {C : Nat} {L : List α} (h : RwO K E w wr (.slice A L.length C) L) (hk : L.length ≤ 1048576) : RwV K E wr A C L := by
  have hC : L.length ≤ C := by
    rcases h.own.2 with ⟨e, h0⟩ | ⟨g, cap, cur, e, _, _, hc, _⟩
    · omega
    · injection e with _ _ e
      omega
  refine ⟨hk, hC, fun h0 => ?_, fun x hx => ⟨(h.rows x hx).row.row, (h.rows x hx).byt⟩⟩
  rcases h.own.2 with ⟨_, q⟩ | ⟨g, cap, cur, e, hb, hg, _⟩
  · omega
  · injection e with e _ _
    subst e
    refine ⟨g, 0, rfl, fun i x hx j u hu => ?_⟩
    have c0 := World.ownsRow.cells h.own (g := g) rfl _ _ (cellsO_get (K := K) (fun y hy => (h.ok y hy).len) hx j u hu)
    rw [add_pl] at c0
    rw [show 0 + i * K.k + j = 0 + (i * K.k + j) by omega]
    exact c0
theorem RwV.front {w : World} {A : Option Addr} {C : Nat} {L : List α} (h : RwV K E w A C L) (n : Nat) : RwV K E w A C (L.take n) :=
  ⟨by rw [List.length_take]; have := h.le; omega, by rw [List.length_take]; have := h.cap; omega, fun h0 => by
    rw [List.length_take] at h0
    obtain ⟨b, o, hA, hc⟩ := h.at' (by omega)
    exact ⟨b, o, hA, fun i x hx j u hu => hc i x (by rw [List.getElem?_take] at hx; split at hx; exact hx; cases hx) j u hu⟩, fun x hx => h.rows x (List.mem_of_mem_take hx)⟩
theorem RwV.tail {w : World} {b o : Nat} {C : Nat} {L : List α} (h : RwV K E w (some ⟨b, o, none⟩) C L) (n : Nat) (hn : n ≤ L.length) : RwV K E w (some ⟨b, o + n * K.k, none⟩) (C - n) (L.drop n) :=
  ⟨by rw [List.length_drop]; have := h.le; omega, by rw [List.length_drop]; have := h.cap; omega, fun h0 => by
    rw [List.length_drop] at h0
    obtain ⟨b', o', hA, hc⟩ := h.at' (by omega)
    injection hA with hA
    injection hA with e1 e2
    subst e1
    subst e2
    refine ⟨b, _, rfl, fun i x hx j u hu => ?_⟩
    rw [List.getElem?_drop] at hx
    have := hc (n + i) x hx j u hu
    rw [Nat.add_mul, ← Nat.add_assoc] at this
    exact this, fun x hx => h.rows x (List.mem_of_mem_drop hx)⟩
theorem RwV.none {w : World} (K : Kd) (E : El α) (A : Option Addr) (C : Nat) : RwV K E w A C [] := ⟨Nat.zero_le _, Nat.zero_le _, fun h => absurd h (Nat.lt_irrefl 0), fun x hx => (by cases hx)⟩
end
structure Pv where
  p : Pn
  V : Value
def elP : El Pv := ⟨fun x => (pcC x.p x.V).toList, Pv.V, fun x => x.p.B⟩
def kdP : Kd := ⟨ 26, 102, 7, 72, .agg (pcC pn0 (.slice none 0 0))⟩
theorem kdP_ok : kdP.Ok := ⟨by kernel_rfl, by kernel_rfl, by kernel_rfl, by decide, by decide, by decide⟩
theorem elP_ok {x : Pv} (h : SlV x.V) : elP.Ok kdP x := ⟨rfl, fun u hu => by
  obtain ⟨A, n, C, e⟩ := h
  simp only [elP, pcC, List.mem_cons, List.not_mem_nil, or_false] at hu
  rcases hu with rfl | rfl | rfl | rfl | rfl | rfl | rfl <;> first | rfl | (rw [e]; rfl)⟩
structure Lk where
  p : Pn
  V : Value
  sum : Int
def lkC (x : Lk) : Array Value := #[.int .i64 x.p.seq, .int .i64 x.p.ep, .int .i64 x.p.fr, .int .i64 x.p.ch, .int .i64 x.p.ix, .int .i64 x.p.ofn, x.V, .int .i64 x.sum]
def elL : El Lk := ⟨fun x => (lkC x).toList, Lk.V, fun x => x.p.B⟩
def lk0 (s : Int) : Lk := ⟨pn0, .slice none 0 0, s⟩
def kdL : Kd := ⟨ 100, 95, 8, 80, .agg (lkC (lk0 0))⟩
theorem kdL_ok : kdL.Ok := ⟨by kernel_rfl, by kernel_rfl, by kernel_rfl, by decide, by decide, by decide⟩
theorem elL_ok {x : Lk} (h : SlV x.V) : elL.Ok kdL x := ⟨rfl, fun u hu => by
  obtain ⟨A, n, C, e⟩ := h
  simp only [elL, lkC, List.mem_cons, List.not_mem_nil, or_false] at hu
  rcases hu with rfl | rfl | rfl | rfl | rfl | rfl | rfl | rfl <;> first | rfl | (rw [e]; rfl)⟩
structure Bv where
  V : Value
  B : List Nat
def elB : El Bv := ⟨fun x => [x.V], Bv.V, Bv.B⟩
def kdB : Kd := ⟨ /-t-/24, /-t-/37, 1, 24, .slice none 0 0⟩
theorem kdB_ok : kdB.Ok := ⟨by kernel_rfl, by kernel_rfl, by kernel_rfl, by decide, by decide, by decide⟩
theorem elB_ok {x : Bv} (h : SlV x.V) : elB.Ok kdB x := ⟨rfl, fun u hu => by
  obtain ⟨A, n, C, e⟩ := h
  rw [List.mem_singleton.1 hu, e]; rfl⟩
theorem wpList_appK_of {ops : Array Oper} {rest : List Oper} {o : Oper} {a : Act} {Q : Exit → Act → World → Prop} (S : TypeId) (w : World) (hgd : o.guard = none) (s x : Operand)
    (ho : o.op = .call { callee := .builtin .append, args := #[s, x], argTypes := #[S, S] }) (hty : o.type = S) (sv xv v' : Value) (w' : World) (hs : a.eval s = sv) (hx : a.eval x = xv)
    (hrun : (Builtin.append_ #[S, S] S #[sv, xv]).run Tryz.prog w = .ok v' w') (h : wpList Tryz.prog ops Q rest (a.put o.dst v') w') : wpList Tryz.prog ops Q (o :: rest) a w := by
  refine wpList_plain hgd fun _ hK => ?_
  unfold Oper.wp execOp
  simp only [ho, hty, resolve, invoke, builtin, Sem.run_bind, Sem.run_pure, Result.andThen_ok, List.map_toArray, List.map_cons, List.map_nil, hs, hx, hrun]
  exact hK _ _ h
theorem slice_pc (w : World) (p : Pn) (V : Value) : (Instr.buildSlice 102 1 #[(0, .agg (pcC p V))]).run Tryz.prog w = .ok (.slice (some ⟨w.heap.size, 0, none⟩) 1 1) (w.alloc (.cells (pcC p V) 26)) := by
  obtain ⟨i0, hi, hz0, hz1, hz2⟩ := info_parts kdP_ok.inf
  refine run_buildSlice (P := Tryz.prog) w _ _ 1 _ _ i0 _ kdP_ok.un hi hz0 (by rw [hz1]; decide) (by rw [hz1]; decide) ?_
  rw [hz1]
  exact fill_one _ _ 7 rfl (by simp; rfl) (by omega)
theorem slice_lk (w : World) (x : Lk) : (Instr.buildSlice 95 1 #[(0, .agg (lkC x))]).run Tryz.prog w = .ok (.slice (some ⟨w.heap.size, 0, none⟩) 1 1) (w.alloc (.cells (lkC x) 100)) := by
  obtain ⟨i0, hi, hz0, hz1, hz2⟩ := info_parts kdL_ok.inf
  refine run_buildSlice (P := Tryz.prog) w _ _ 1 _ _ i0 _ kdL_ok.un hi hz0 (by rw [hz1]; decide) (by rw [hz1]; decide) ?_
  rw [hz1]
  exact fill_one _ _ 8 rfl (by simp; rfl) (by omega)
end Go.Proofs.YteleknojohnlbaaGreat
