/-
  sup.Pick, walked.
-/
import Derived.Test.YtjdknebifcdicaaMg28
import Derived.Deep.RegionHeld3
namespace Go.Proofs.Ytjdknebifcdicaa
open Go.RowKit
set_option linter.unusedVariables false
set_option maxRecDepth 100000

/-! ### rows of bytes -/
structure BsV (w : World) (A : Option Addr) (k C : Nat) (N : Nat → Nat) (Z : Nat → Nat → Nat) : Prop where
  le : k ≤ 140737488351232
  cap : k ≤ C
  at' : 0 < k → ∃ b o, A = some ⟨b, o, none⟩ ∧ ∀ c, c < k → ∃ A' C', w.cell? ⟨b, o + c, none⟩ = some (.slice A' (N c) C') ∧ RowV w (.slice A' (N c) C') (N c) (Z c)
theorem BsV.ch {S : Nat → Prop} {w w' : World} {A : Option Addr} {k C : Nat} {N : Nat → Nat} {Z : Nat → Nat → Nat} (h : BsV w A k C N Z) (g : Ch S w w') (hS : ∀ i, i < w.heap.size → ¬ S i) : BsV w' A k C N Z :=
  ⟨h.le, h.cap, fun h0 => by
    obtain ⟨b, o, hA, hc⟩ := h.at' h0
    refine ⟨b, o, hA, fun c hck => ?_⟩
    obtain ⟨A', C', h1, h2⟩ := hc c hck
    exact ⟨A', C', g.cell h1 (hS _ (World.block_lt_of_cell? _ _ h1)), h2.ch g hS⟩⟩
theorem BsV.gr {w w' : World} {A : Option Addr} {k C : Nat} {N : Nat → Nat} {Z : Nat → Nat → Nat} (h : BsV w A k C N Z) (g : Ch (fun _ => False) w w') : BsV w' A k C N Z := h.ch g (fun _ _ f => f)

/-! ### the last one -/
theorem tells_gen {n : Nat} {z : Nat → Nat} {i : Int} {y : Sp} (h : Tells n z i y) : 1 ≤ y.gen := (mayS_iff.1 (sokB_iff.1 h.sec).1).gen.1
theorem gen_opt {n : Nat} {z : Nat → Nat} {i : Int} {o : Option Sp} (h : TellS n z i o) : o = none ∨ ∃ y, o = some y ∧ 1 ≤ y.gen := by
  cases o with
  | none => exact Or.inl rfl
  | some y => exact Or.inr ⟨y, rfl, tells_gen ((h y).1 rfl)⟩
theorem pick_gen {O : Nat → Option Sp} {k : Nat} (h : ∀ c, c < k → O c = none ∨ ∃ y, O c = some y ∧ 1 ≤ y.gen) : pickF O k = none ∨ ∃ y, pickF O k = some y ∧ 1 ≤ y.gen := by
  cases hp : pickF O k with
  | none => exact Or.inl rfl
  | some y =>
    obtain ⟨j, hj, e⟩ := pickF_mem O k y hp
    rcases h j hj with q | ⟨x, q, h1⟩
    · rw [q] at e; cases e
    · rw [q] at e
      injection e with e
      subst e
      exact Or.inr ⟨x, rfl, h1⟩
theorem pick_step {O : Nat → Option Sp} {k : Nat} (h : ∀ c, c < k + 1 → O c = none ∨ ∃ y, O c = some y ∧ 1 ≤ y.gen) : optS (pickF O (k + 1)) = if (optS (pickF O k)).gen < (optS (O k)).gen then optS (O k) else optS (pickF O k) := by
  have hp := pick_gen (k := k) fun c hc => h c (by omega)
  rcases h k (by omega) with ho | ⟨x, ho, hx⟩
  · rw [pickF_none O ho, ho]
    rcases hp with q | ⟨y, q, hy⟩
    · rw [q, if_neg (by decide)]
    · rw [q]
      exact (if_neg (show ¬ (y.gen < (0 : Int)) by omega)).symm
  · rw [pickF_some O ho, ho]
    rcases hp with q | ⟨y, q, hy⟩
    · rw [q]
      exact (if_pos (show (0 : Int) < x.gen by omega)).symm
    · rw [q]
      show optS (if y.gen < x.gen then some x else some y) = if y.gen < x.gen then x else y
      split <;> rfl
theorem opt_some {o : Option Sp} (h : o = none ∨ ∃ y, o = some y ∧ 1 ≤ y.gen) : decide (0 < (optS o).gen) = o.isSome := by
  rcases h with rfl | ⟨y, rfl, hy⟩
  · rfl
  · exact decide_eq_true (show (0 : Int) < y.gen by omega)
def PickPost (k : Nat) (N : Nat → Nat) (Z : Nat → Nat → Nat) (w : World) (e : Ending) (w' : World) : Prop :=
  ∃ O : Nat → Option Sp, (∀ c, c < min k 4 → TellS (N c) (Z c) (c : Int) (O c)) ∧ e = .returned (.tuple #[.agg (supC (optS (pickF O (min k 4)))), .bool (pickF O (min k 4)).isSome]) ∧ Ch (fun _ => False) w w'
/-- How the first j have been told, and the last one of them stands in the variable H. -/
structure PickP (w wr : World) (H : Nat) (N : Nat → Nat) (Z : Nat → Nat → Nat) (j : Nat) : Prop where
  tell : ∃ O : Nat → Option Sp, (∀ c, c < j → TellS (N c) (Z c) (c : Int) (O c)) ∧ wr.heap[H]? = some (.cells (supC (optS (pickF O j))) 25 (0, 0))
  ch : Ch (fun _ => False) w wr
theorem PickP.next {w wr w2 : World} {H j : Nat} {N : Nat → Nat} {Z : Nat → Nat → Nat} {O : Nat → Option Sp} {o : Option Sp} {x : Sp} (hO : ∀ c, c < j → TellS (N c) (Z c) (c : Int) (O c)) (ho : TellS (N j) (Z j) (j : Int) o)
    (hx : (if (optS (pickF O j)).gen < (optS o).gen then optS o else optS (pickF O j)) = x) (h2 : w2.heap[H]? = some (.cells (supC x) 25 (0, 0))) (hc : Ch (fun _ => False) w w2) : PickP w w2 H N Z (j + 1) := by
  have e1 : pickF (up O j o) j = pickF O j := pickF_congr fun c hc => up_other O o (by omega)
  have hall : ∀ c, c < j + 1 → TellS (N c) (Z c) (c : Int) (up O j o c) := fun c hc => by
    by_cases q : c = j
    · subst q; rw [up_same]; exact ho
    · rw [up_other _ _ q]; exact hO c (by omega)
  refine ⟨⟨up O j o, hall, ?_⟩, hc⟩
  have := pick_step (O := up O j o) (k := j) fun c hc => gen_opt (hall c hc)
  rw [up_same, e1, hx] at this
  rw [this]
  exact h2
set_option maxHeartbeats 6400000 in
theorem spick_any (A : Option Addr) (k C : Nat) (N : Nat → Nat) (Z : Nat → Nat → Nat) (w : World) (h : BsV w A k C N Z) : Calls Try.prog 16 #[.slice A k C] w (PickPost k N Z w) := by
  obtain ⟨w1, H, hZ⟩ := zeS w
  obtain ⟨w2, H2, hZ2⟩ := zeS w1
  have HH := Lib.hid (show w.heap.size ≤ H ∧ H < H2 ∧ w.heap.size ≤ H2 from ⟨by rw [hZ.sz]; exact Nat.le_refl _, by rw [← hZ2.sz]; exact blk_lt hZ.cx, by rw [← hZ2.sz]; exact hZ.ch.size⟩)
  have HP0 := Lib.hid (show PickP w w2 H2 N Z 0 from ⟨⟨fun _ => none, fun c hc => absurd hc (Nat.not_lt_zero c), hZ2.cx⟩, hZ.ch.trans hZ2.ch⟩)
  have HX0 := Lib.hid ((hZ2.ch.block H (blk_lt (o := .cells (supC sp0) 25 (0, 0)) hZ.cx) (fun f => f)).trans hZ.cx)
  have HV := Lib.hid h
  have HZ := Lib.hid hZ
  have HZ2 := Lib.hid hZ2
  have hkC := h.cap
  obtain ⟨m, hm⟩ : ∃ m, m = min k 4 := ⟨_, rfl⟩
  have HMIN := Lib.hid (show min k 4 = m from hm.symm)
  have HMK := Lib.hid (show m ≤ k by omega)
  have HM4 := Lib.hid (show m ≤ 4 by omega)
  clear hZ hZ2 h
  by_cases hk4 : k ≤ 4
  case pos =>
    obtain rfl : m = k := by omega
    have hk5 : (m : Int) ≤ 4 := by omega
    have m1 : (m : Int) ≤ (C : Int) := by omega
    have m0 : (0 : Int) ≤ (m : Int) := Int.natCast_nonneg _
    clear hm hk4 hkC
    go_enter Try.func16, Try.ntmps16
    go_wp2_with (first
      | ((with_reducible refine wpList_isOp (.alloc 25) rfl ?_); refine wpList_making _ w1 rfl 25 rfl (supC sp0) H (zero_su _) (by exact HZ.out.sz) (by exact HZ.out.al) ?_)
      | ((with_reducible refine wpList_isOp (.alloc 25) rfl ?_); refine wpList_making _ w2 rfl 25 rfl (supC sp0) H2 (zero_su _) (by exact HZ2.out.sz) (by exact HZ2.out.al) ?_)
      | fail)
    clear hk5 m1 m0
    go_loopw [5, 6, 7, 8, 15, 16, 17, 18, 19, 20, 21, 22, 23, 24, 25, 26, 27, 28, 29, 30, 31, 32] (fun _ _ _ _ i _ _ _ _ _ _ _ _ _ _ _ _ _ _ _ _ _ wr => ∃ j : Nat, j ≤ m ∧ i = .int .i64 j ∧ Hid (PickP w wr H2 N Z j) ∧ Hid (wr.heap[H]? = some (.cells (supC sp0) 25 (0, 0)))) (fun _ _ _ _ i _ _ _ _ _ _ _ _ _ _ _ _ _ _ _ _ _ _ => m - (intOf i).toNat)
    case atStart => exact ⟨0, Nat.zero_le _, rfl, HP0, HX0⟩
    case round =>
      obtain ⟨j, hj, rfl, HP, HX⟩ := hrel
      by_cases hlt : j < m
      · have i1 : (0 : Int) ≤ (j : Int) := Int.natCast_nonneg _
        have i2 : (j : Int) < (m : Int) := by omega
        have i4 : (j : Int) < 4 := by have := HM4.out; omega
        obtain ⟨b, o, rfl, hcs⟩ := HV.out.at' (by have := HMK.out; omega)
        obtain ⟨A', C', hc0, hr0⟩ := hcs j (by have := HMK.out; omega)
        obtain ⟨⟨O, hO, hl⟩, hch⟩ := HP.out
        have hc1 := hch.cell hc0 (fun f => f)
        have HT := Lib.hid (stold_any A' (N j) C' (Z j) (j : Int) wr (hr0.gr hch))
        obtain ⟨l, hl0⟩ : ∃ l, l = optS (pickF O j) := ⟨_, rfl⟩
        rw [← hl0] at hl
        have HL0 := Lib.hid hl0
        have HO := Lib.hid hO
        have HLX := Lib.hid hl
        have HCH := Lib.hid hch
        have HLT := Lib.hid hlt
        clear hcs hc0 hr0 hO hl hch hl0 hlt HP
        go_wp2_with fail
        refine HT.out.mono ?_
        rintro e w4 ⟨ot, ht, rfl, hc4⟩
        obtain ⟨x, hx0⟩ : ∃ x, x = optS ot := ⟨_, rfl⟩
        obtain ⟨s0, hs0⟩ : ∃ s0, s0 = ot.isSome := ⟨_, rfl⟩
        rw [← hx0, ← hs0]
        obtain ⟨wz, w5, H5, hV5⟩ := varS x w4
        have hc45 := hc4.trans hV5.ch
        have hl5 := (hc45.block H2 (blk_lt (o := .cells (supC l) 25 (0, 0)) HLX.out) (fun f => f)).trans HLX.out
        have hx5 := (hc45.block H (blk_lt (o := .cells (supC sp0) 25 (0, 0)) HX.out) (fun f => f)).trans HX.out
        have y1 : w5.cell? ⟨H5, 1, none⟩ = some (.int .i64 x.gen) := blk_cell hV5.cx
        have y2 : w5.cell? ⟨H2, 1, none⟩ = some (.int .i64 l.gen) := blk_cell hl5
        have HL5 := Lib.hid (load_su hV5.cx)
        obtain ⟨w6, h6⟩ := stS x hl5
        have HNX := Lib.hid (fun y w2 (hy : (if (optS (pickF O j)).gen < (optS ot).gen then optS ot else optS (pickF O j)) = y) => PickP.next (w := w) (wr := wr) (w2 := w2) (H := H2) HO.out ht hy)
        rw [← HL0.out, ← hx0] at HNX
        have HC5 := Lib.hid (HCH.out.trans hc45)
        have HX5 := Lib.hid hx5
        have HLX5 := Lib.hid hl5
        have HV5 := Lib.hid hV5
        have H6 := Lib.hid h6
        have HX6 := Lib.hid ((h6.ch.block H (blk_lt (o := .cells (supC sp0) 25 (0, 0)) hx5) (fun q => by have := HH.out.2.1; omega)).trans hx5)
        have HC6 := Lib.hid ((HCH.out.trans hc45).new (h6.ch.mono fun i _ hi => by rw [hi]; exact HH.out.2.2))
        clear hx0 hs0 hc4 hV5 hc45 hl5 hx5 h6 ht HT
        by_cases hg : l.gen < x.gen
        · have HG := Lib.hid (show (if l.gen < x.gen then x else l) = x from if_pos hg)
          have hg1 : decide (l.gen < x.gen) = true := decide_eq_true hg
          clear hg
          go_wp2_with (first
            | ((with_reducible refine wpList_isOp (.alloc 25) rfl ?_); refine wpList_making _ wz rfl 25 rfl (supC sp0) H5 (zero_su _) (by exact HV5.out.sz) (by exact HV5.out.al) ?_)
            | ((with_reducible refine wpList_isOp (.store 25 (.tmp 7) (.tmp 24)) rfl ?_); refine wpList_storing _ w5 rfl 25 (.tmp 7) (.tmp 24) rfl (.agg (supC x)) ⟨H5, 0, none⟩ rfl rfl (by exact HV5.out.st) ?_)
            | ((with_reducible refine wpList_isOp (.load 25 (.tmp 7)) rfl ?_); refine wpList_loading _ rfl 25 (.tmp 7) rfl (.agg (supC x)) ⟨H5, 0, none⟩ rfl (by exact HL5.out) ?_)
            | ((with_reducible refine wpList_isOp (.store 25 (.tmp 4) (.tmp 31)) rfl ?_); refine wpList_storing _ w6 rfl 25 (.tmp 4) (.tmp 31) rfl (.agg (supC x)) ⟨H2, 0, none⟩ rfl rfl (by exact H6.out.st) ?_)
            | fail)
          have hj4 : j < 4 := by have := HLT.out; have := HM4.out; omega
          go_roundw
          case rel => exact ⟨j + 1, HLT.out, by go_num, Lib.hid (HNX.out x _ HG.out H6.out.cx HC6.out), HX6⟩
          case measure => have := HLT.out; simp [intOf]; omega
        · have HG := Lib.hid (show (if l.gen < x.gen then x else l) = l from if_neg hg)
          have hg1 : decide (l.gen < x.gen) = false := decide_eq_false hg
          clear hg
          go_wp2_with (first
            | ((with_reducible refine wpList_isOp (.alloc 25) rfl ?_); refine wpList_making _ wz rfl 25 rfl (supC sp0) H5 (zero_su _) (by exact HV5.out.sz) (by exact HV5.out.al) ?_)
            | ((with_reducible refine wpList_isOp (.store 25 (.tmp 7) (.tmp 24)) rfl ?_); refine wpList_storing _ w5 rfl 25 (.tmp 7) (.tmp 24) rfl (.agg (supC x)) ⟨H5, 0, none⟩ rfl rfl (by exact HV5.out.st) ?_)
            | fail)
          have hj4 : j < 4 := by have := HLT.out; have := HM4.out; omega
          go_roundw
          case rel => exact ⟨j + 1, HLT.out, by go_num, Lib.hid (HNX.out l _ HG.out HLX5.out HC5.out), HX5⟩
          case measure => have := HLT.out; simp [intOf]; omega
      · obtain rfl : j = m := by omega
        obtain ⟨⟨O, hO, hl⟩, hch⟩ := HP.out
        have hgen := opt_some (pick_gen (O := O) (k := j) fun c hc => gen_opt (hO c hc))
        have HFIN := Lib.hid (show ∀ w', Ch (fun _ => False) w w' → PickPost j N Z w (.returned (.tuple #[.agg (supC (optS (pickF O j))), .bool (pickF O j).isSome])) w' from fun w' hw' => by
          unfold PickPost
          rw [HMIN.out]
          exact ⟨O, hO, rfl, hw'⟩)
        rw [← hgen] at HFIN
        obtain ⟨l, hl0⟩ : ∃ l, l = optS (pickF O j) := ⟨_, rfl⟩
        rw [← hl0] at hl HFIN
        have hcd : Ch (fun _ => False) wr wr.drew := (Ch.refl _ wr).drew
        obtain ⟨wd, hwd⟩ : ∃ wd, wd = wr.drew := ⟨_, rfl⟩
        rw [← hwd] at hcd
        have hld := (hcd.block H2 (blk_lt hl) (fun f => f)).trans hl
        have hxd := (hcd.block H (blk_lt (o := .cells (supC sp0) 25 (0, 0)) HX.out) (fun f => f)).trans HX.out
        obtain ⟨w6, h6⟩ := stS l hxd
        have HLD := Lib.hid hld
        have HWD := Lib.hid hwd
        have H6 := Lib.hid h6
        have HLD6 := Lib.hid ((h6.ch.block H2 (blk_lt hld) (fun q => by have := HH.out.2.1; omega)).trans hld)
        have HP6 := Lib.hid (HFIN.out w6 ((hch.trans hcd).new (h6.ch.mono fun i _ hi => by rw [hi]; exact HH.out.1)))
        clear hlt hj hO hl hch hgen hl0 hcd hwd hld hxd h6 HFIN
        go_upto_region 9 with fail
        refine wp_region_held (S := fun W' => W'.heap[H2]? = some (.cells (supC l) 25 (0, 0))) (by kernel_rfl) ?_
        change wpAnyH _ _ _ _ _ _ _ _ (World.drew _)
        rw [← HWD.out]
        refine wpAnyH_take (i := 0) (oi := ⟨some 33, .load 25 (.tmp 4), _, _, _, none⟩) (v := .agg (supC l)) rfl (by kernel_rfl) (by kernel_rfl) (by kernel_rfl) (fun _ _ _ h => h) (Or.inl ⟨by rfl, exec_load _ (.tmp 4) rfl _ ⟨H2, 0, none⟩ (by first | (simp [Act.eval]; done) | simp [Act.eval, Act.put]) (fun w' hS => load_su hS)⟩) HLD.out ?_
        simp only [Act.put, List.setIfInBounds_toArray, List.set_cons_zero, List.set_cons_succ]
        refine wpAnyH_take (i := 1) (oi := ⟨some 34, .fieldAddr 25 (.tmp 4) 1, _, _, _, none⟩) (v := .pointer (some ⟨H2, 1, none⟩)) rfl (by kernel_rfl) (by kernel_rfl) (by kernel_rfl) (fun _ _ _ h => h) (Or.inl ⟨by rfl, fun w' hS => ?_⟩) HLD.out ?_
        · clear hS; go_simp
        simp only [Act.put, List.setIfInBounds_toArray, List.set_cons_zero, List.set_cons_succ]
        refine wpAnyH_take (i := 2) (oi := ⟨some 35, .load /-t-/3 (.tmp 34), _, _, _, none⟩) (v := .int .i64 l.gen) rfl (by kernel_rfl) (by kernel_rfl) (by kernel_rfl) (fun _ _ _ h => h) (Or.inl ⟨by rfl, fun w' hS => ?_⟩) HLD.out ?_
        · have x1 : w'.cell? ⟨H2, 1, none⟩ = some (.int .i64 l.gen) := blk_cell hS
          clear hS; go_simp
        simp only [Act.put, List.setIfInBounds_toArray, List.set_cons_zero, List.set_cons_succ]
        refine wpAnyH_take (i := 3) (oi := ⟨some 36, .binOp .gtr /-t-/3 (.tmp 35) (.const (.int .i64 0)) /-t-/3, _, _, _, none⟩) (v := .bool (decide (0 < l.gen))) rfl (by kernel_rfl) (by kernel_rfl) (by kernel_rfl) (fun _ _ _ h => h) (Or.inl ⟨by rfl, fun w' hS => ?_⟩) HLD.out ?_
        · clear hS; go_simp
        simp only [Act.put, List.setIfInBounds_toArray, List.set_cons_zero, List.set_cons_succ]
        refine wpAnyH_ready (rs := [4]) (by kernel_rfl) (by simp) ?_
        refine AllReadyH.cons rfl (fun K hK => ?_) AllReadyH.nil
        refine step_storing (o := ⟨none, .store 25 (.tmp 2) (.tmp 33), _, _, _, none⟩) w6 rfl 25 (.tmp 2) (.tmp 33) rfl (.agg (supC l)) ⟨H, 0, none⟩ (by first | (simp [Act.eval]; done) | simp [Act.eval, Act.put]) (by first | (simp [Act.eval]; done) | simp [Act.eval, Act.put]) (by exact H6.out.st) ?_
        refine hK.out _ _ (by exact HLD6.out) (fun _ => ?_)
        clear hK K
        refine wpAnyH_take (i := 5) (oi := ⟨some 3, .assign (.tmp 36), _, _, _, none⟩) (v := .bool (decide (0 < l.gen))) rfl (by kernel_rfl) (by kernel_rfl) (by kernel_rfl) (fun _ _ _ h => h) (Or.inl ⟨by rfl, fun w' hS => ?_⟩) HLD6.out ?_
        · clear hS; go_simp
        simp only [Act.put, List.setIfInBounds_toArray, List.set_cons_zero, List.set_cons_succ]
        refine wpAnyH_done (by kernel_rfl) ?_ _
        go_wp2
        exact bodyPost_ret (v := .tuple #[.agg (supC l), .bool (decide (0 < l.gen))]) (results_su Try.results16 _ _ H l rfl H6.out.cx) rfl HP6.out
  case neg =>
    have hm4 : m = 4 := by omega
    have hk5 : (4 : Int) < (k : Int) := by omega
    have m1 : (4 : Int) ≤ (C : Int) := by omega
    clear hm hk4 hkC
    go_enter Try.func16, Try.ntmps16
    go_wp2_with (first
      | ((with_reducible refine wpList_isOp (.alloc 25) rfl ?_); refine wpList_making _ w1 rfl 25 rfl (supC sp0) H (zero_su _) (by exact HZ.out.sz) (by exact HZ.out.al) ?_)
      | ((with_reducible refine wpList_isOp (.alloc 25) rfl ?_); refine wpList_making _ w2 rfl 25 rfl (supC sp0) H2 (zero_su _) (by exact HZ2.out.sz) (by exact HZ2.out.al) ?_)
      | fail)
    rw [show Value.slice A 4 C = Value.slice A m C by rw [hm4], show Value.int IntKind.i64 4 = .int .i64 (m : Int) by rw [hm4]; rfl]
    clear hk5 m1 hm4
    go_loopw [5, 6, 7, 8, 15, 16, 17, 18, 19, 20, 21, 22, 23, 24, 25, 26, 27, 28, 29, 30, 31, 32] (fun _ _ _ _ i _ _ _ _ _ _ _ _ _ _ _ _ _ _ _ _ _ wr => ∃ j : Nat, j ≤ m ∧ i = .int .i64 j ∧ Hid (PickP w wr H2 N Z j) ∧ Hid (wr.heap[H]? = some (.cells (supC sp0) 25 (0, 0)))) (fun _ _ _ _ i _ _ _ _ _ _ _ _ _ _ _ _ _ _ _ _ _ _ => m - (intOf i).toNat)
    case atStart => exact ⟨0, Nat.zero_le _, rfl, HP0, HX0⟩
    case round =>
      obtain ⟨j, hj, rfl, HP, HX⟩ := hrel
      by_cases hlt : j < m
      · have i1 : (0 : Int) ≤ (j : Int) := Int.natCast_nonneg _
        have i2 : (j : Int) < (m : Int) := by omega
        have i4 : (j : Int) < 4 := by have := HM4.out; omega
        obtain ⟨b, o, rfl, hcs⟩ := HV.out.at' (by have := HMK.out; omega)
        obtain ⟨A', C', hc0, hr0⟩ := hcs j (by have := HMK.out; omega)
        obtain ⟨⟨O, hO, hl⟩, hch⟩ := HP.out
        have hc1 := hch.cell hc0 (fun f => f)
        have HT := Lib.hid (stold_any A' (N j) C' (Z j) (j : Int) wr (hr0.gr hch))
        obtain ⟨l, hl0⟩ : ∃ l, l = optS (pickF O j) := ⟨_, rfl⟩
        rw [← hl0] at hl
        have HL0 := Lib.hid hl0
        have HO := Lib.hid hO
        have HLX := Lib.hid hl
        have HCH := Lib.hid hch
        have HLT := Lib.hid hlt
        clear hcs hc0 hr0 hO hl hch hl0 hlt HP
        go_wp2_with fail
        refine HT.out.mono ?_
        rintro e w4 ⟨ot, ht, rfl, hc4⟩
        obtain ⟨x, hx0⟩ : ∃ x, x = optS ot := ⟨_, rfl⟩
        obtain ⟨s0, hs0⟩ : ∃ s0, s0 = ot.isSome := ⟨_, rfl⟩
        rw [← hx0, ← hs0]
        obtain ⟨wz, w5, H5, hV5⟩ := varS x w4
        have hc45 := hc4.trans hV5.ch
        have hl5 := (hc45.block H2 (blk_lt (o := .cells (supC l) 25 (0, 0)) HLX.out) (fun f => f)).trans HLX.out
        have hx5 := (hc45.block H (blk_lt (o := .cells (supC sp0) 25 (0, 0)) HX.out) (fun f => f)).trans HX.out
        have y1 : w5.cell? ⟨H5, 1, none⟩ = some (.int .i64 x.gen) := blk_cell hV5.cx
        have y2 : w5.cell? ⟨H2, 1, none⟩ = some (.int .i64 l.gen) := blk_cell hl5
        have HL5 := Lib.hid (load_su hV5.cx)
        obtain ⟨w6, h6⟩ := stS x hl5
        have HNX := Lib.hid (fun y w2 (hy : (if (optS (pickF O j)).gen < (optS ot).gen then optS ot else optS (pickF O j)) = y) => PickP.next (w := w) (wr := wr) (w2 := w2) (H := H2) HO.out ht hy)
        rw [← HL0.out, ← hx0] at HNX
        have HC5 := Lib.hid (HCH.out.trans hc45)
        have HX5 := Lib.hid hx5
        have HLX5 := Lib.hid hl5
        have HV5 := Lib.hid hV5
        have H6 := Lib.hid h6
        have HX6 := Lib.hid ((h6.ch.block H (blk_lt (o := .cells (supC sp0) 25 (0, 0)) hx5) (fun q => by have := HH.out.2.1; omega)).trans hx5)
        have HC6 := Lib.hid ((HCH.out.trans hc45).new (h6.ch.mono fun i _ hi => by rw [hi]; exact HH.out.2.2))
        clear hx0 hs0 hc4 hV5 hc45 hl5 hx5 h6 ht HT
        by_cases hg : l.gen < x.gen
        · have HG := Lib.hid (show (if l.gen < x.gen then x else l) = x from if_pos hg)
          have hg1 : decide (l.gen < x.gen) = true := decide_eq_true hg
          clear hg
          go_wp2_with (first
            | ((with_reducible refine wpList_isOp (.alloc 25) rfl ?_); refine wpList_making _ wz rfl 25 rfl (supC sp0) H5 (zero_su _) (by exact HV5.out.sz) (by exact HV5.out.al) ?_)
            | ((with_reducible refine wpList_isOp (.store 25 (.tmp 7) (.tmp 24)) rfl ?_); refine wpList_storing _ w5 rfl 25 (.tmp 7) (.tmp 24) rfl (.agg (supC x)) ⟨H5, 0, none⟩ rfl rfl (by exact HV5.out.st) ?_)
            | ((with_reducible refine wpList_isOp (.load 25 (.tmp 7)) rfl ?_); refine wpList_loading _ rfl 25 (.tmp 7) rfl (.agg (supC x)) ⟨H5, 0, none⟩ rfl (by exact HL5.out) ?_)
            | ((with_reducible refine wpList_isOp (.store 25 (.tmp 4) (.tmp 31)) rfl ?_); refine wpList_storing _ w6 rfl 25 (.tmp 4) (.tmp 31) rfl (.agg (supC x)) ⟨H2, 0, none⟩ rfl rfl (by exact H6.out.st) ?_)
            | fail)
          have hj4 : j < 4 := by have := HLT.out; have := HM4.out; omega
          go_roundw
          case rel => exact ⟨j + 1, HLT.out, by go_num, Lib.hid (HNX.out x _ HG.out H6.out.cx HC6.out), HX6⟩
          case measure => have := HLT.out; simp [intOf]; omega
        · have HG := Lib.hid (show (if l.gen < x.gen then x else l) = l from if_neg hg)
          have hg1 : decide (l.gen < x.gen) = false := decide_eq_false hg
          clear hg
          go_wp2_with (first
            | ((with_reducible refine wpList_isOp (.alloc 25) rfl ?_); refine wpList_making _ wz rfl 25 rfl (supC sp0) H5 (zero_su _) (by exact HV5.out.sz) (by exact HV5.out.al) ?_)
            | ((with_reducible refine wpList_isOp (.store 25 (.tmp 7) (.tmp 24)) rfl ?_); refine wpList_storing _ w5 rfl 25 (.tmp 7) (.tmp 24) rfl (.agg (supC x)) ⟨H5, 0, none⟩ rfl rfl (by exact HV5.out.st) ?_)
            | fail)
          have hj4 : j < 4 := by have := HLT.out; have := HM4.out; omega
          go_roundw
          case rel => exact ⟨j + 1, HLT.out, by go_num, Lib.hid (HNX.out l _ HG.out HLX5.out HC5.out), HX5⟩
          case measure => have := HLT.out; simp [intOf]; omega
      · obtain rfl : j = m := by omega
        obtain ⟨⟨O, hO, hl⟩, hch⟩ := HP.out
        have hgen := opt_some (pick_gen (O := O) (k := j) fun c hc => gen_opt (hO c hc))
        have HFIN := Lib.hid (show ∀ w', Ch (fun _ => False) w w' → PickPost k N Z w (.returned (.tuple #[.agg (supC (optS (pickF O j))), .bool (pickF O j).isSome])) w' from fun w' hw' => by
          unfold PickPost
          rw [HMIN.out]
          exact ⟨O, hO, rfl, hw'⟩)
        rw [← hgen] at HFIN
        obtain ⟨l, hl0⟩ : ∃ l, l = optS (pickF O j) := ⟨_, rfl⟩
        rw [← hl0] at hl HFIN
        have hcd : Ch (fun _ => False) wr wr.drew := (Ch.refl _ wr).drew
        obtain ⟨wd, hwd⟩ : ∃ wd, wd = wr.drew := ⟨_, rfl⟩
        rw [← hwd] at hcd
        have hld := (hcd.block H2 (blk_lt hl) (fun f => f)).trans hl
        have hxd := (hcd.block H (blk_lt (o := .cells (supC sp0) 25 (0, 0)) HX.out) (fun f => f)).trans HX.out
        obtain ⟨w6, h6⟩ := stS l hxd
        have HLD := Lib.hid hld
        have HWD := Lib.hid hwd
        have H6 := Lib.hid h6
        have HLD6 := Lib.hid ((h6.ch.block H2 (blk_lt hld) (fun q => by have := HH.out.2.1; omega)).trans hld)
        have HP6 := Lib.hid (HFIN.out w6 ((hch.trans hcd).new (h6.ch.mono fun i _ hi => by rw [hi]; exact HH.out.1)))
        clear hlt hj hO hl hch hgen hl0 hcd hwd hld hxd h6 HFIN
        go_upto_region 9 with fail
        refine wp_region_held (S := fun W' => W'.heap[H2]? = some (.cells (supC l) 25 (0, 0))) (by kernel_rfl) ?_
        change wpAnyH _ _ _ _ _ _ _ _ (World.drew _)
        rw [← HWD.out]
        refine wpAnyH_take (i := 0) (oi := ⟨some 33, .load 25 (.tmp 4), _, _, _, none⟩) (v := .agg (supC l)) rfl (by kernel_rfl) (by kernel_rfl) (by kernel_rfl) (fun _ _ _ h => h) (Or.inl ⟨by rfl, exec_load _ (.tmp 4) rfl _ ⟨H2, 0, none⟩ (by first | (simp [Act.eval]; done) | simp [Act.eval, Act.put]) (fun w' hS => load_su hS)⟩) HLD.out ?_
        simp only [Act.put, List.setIfInBounds_toArray, List.set_cons_zero, List.set_cons_succ]
        refine wpAnyH_take (i := 1) (oi := ⟨some 34, .fieldAddr 25 (.tmp 4) 1, _, _, _, none⟩) (v := .pointer (some ⟨H2, 1, none⟩)) rfl (by kernel_rfl) (by kernel_rfl) (by kernel_rfl) (fun _ _ _ h => h) (Or.inl ⟨by rfl, fun w' hS => ?_⟩) HLD.out ?_
        · clear hS; go_simp
        simp only [Act.put, List.setIfInBounds_toArray, List.set_cons_zero, List.set_cons_succ]
        refine wpAnyH_take (i := 2) (oi := ⟨some 35, .load /-t-/3 (.tmp 34), _, _, _, none⟩) (v := .int .i64 l.gen) rfl (by kernel_rfl) (by kernel_rfl) (by kernel_rfl) (fun _ _ _ h => h) (Or.inl ⟨by rfl, fun w' hS => ?_⟩) HLD.out ?_
        · have x1 : w'.cell? ⟨H2, 1, none⟩ = some (.int .i64 l.gen) := blk_cell hS
          clear hS; go_simp
        simp only [Act.put, List.setIfInBounds_toArray, List.set_cons_zero, List.set_cons_succ]
        refine wpAnyH_take (i := 3) (oi := ⟨some 36, .binOp .gtr /-t-/3 (.tmp 35) (.const (.int .i64 0)) /-t-/3, _, _, _, none⟩) (v := .bool (decide (0 < l.gen))) rfl (by kernel_rfl) (by kernel_rfl) (by kernel_rfl) (fun _ _ _ h => h) (Or.inl ⟨by rfl, fun w' hS => ?_⟩) HLD.out ?_
        · clear hS; go_simp
        simp only [Act.put, List.setIfInBounds_toArray, List.set_cons_zero, List.set_cons_succ]
        refine wpAnyH_ready (rs := [4]) (by kernel_rfl) (by simp) ?_
        refine AllReadyH.cons rfl (fun K hK => ?_) AllReadyH.nil
        refine step_storing (o := ⟨none, .store 25 (.tmp 2) (.tmp 33), _, _, _, none⟩) w6 rfl 25 (.tmp 2) (.tmp 33) rfl (.agg (supC l)) ⟨H, 0, none⟩ (by first | (simp [Act.eval]; done) | simp [Act.eval, Act.put]) (by first | (simp [Act.eval]; done) | simp [Act.eval, Act.put]) (by exact H6.out.st) ?_
        refine hK.out _ _ (by exact HLD6.out) (fun _ => ?_)
        clear hK K
        refine wpAnyH_take (i := 5) (oi := ⟨some 3, .assign (.tmp 36), _, _, _, none⟩) (v := .bool (decide (0 < l.gen))) rfl (by kernel_rfl) (by kernel_rfl) (by kernel_rfl) (fun _ _ _ h => h) (Or.inl ⟨by rfl, fun w' hS => ?_⟩) HLD6.out ?_
        · clear hS; go_simp
        simp only [Act.put, List.setIfInBounds_toArray, List.set_cons_zero, List.set_cons_succ]
        refine wpAnyH_done (by kernel_rfl) ?_ _
        go_wp2
        exact bodyPost_ret (v := .tuple #[.agg (supC l), .bool (decide (0 < l.gen))]) (results_su Try.results16 _ _ H l rfl H6.out.cx) rfl HP6.out
#print axioms spick_any
end Go.Proofs.Ytjdknebifcdicaa
