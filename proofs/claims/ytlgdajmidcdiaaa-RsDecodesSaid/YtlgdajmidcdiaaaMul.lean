/-
  mat.Mul, walked.
-/
import Derived.Test.YtlgdajmidcdiaaaOnes
namespace Go.Proofs.Ytlgdajmidcdiaaa
open Go.RowKit
set_option linter.unusedVariables false

/-- What Mul's function works on: both matrices, the field, and where they are kept, as they stood when the rows were made. -/
structure MulAt (w0 : World) (g pa pb pf n k m : Nat) (va vb : Value) (X Y : Nat → Nat → Nat) : Prop where
  a : MatV w0 va n (fun _ => k) X
  b : MatV w0 vb k (fun _ => m) Y
  f : fullAt w0 g
  ca : w0.cell? ⟨pa, 0, none⟩ = some va
  cb : w0.cell? ⟨pb, 0, none⟩ = some vb
  cf : w0.cell? ⟨pf, 0, none⟩ = some (.pointer (some ⟨g, 0, none⟩))
  k1 : 1 ≤ k
  k2 : k ≤ 64
  m1 : 1 ≤ m
  m2 : m ≤ 4096
  n1 : 1 ≤ n
  n2 : n ≤ 64
def MulRel (br m j : Nat) (i : Nat) (X Y : Nat → Nat → Nat) (w wr : World) : Prop := bRow wr br m (fun c => mulZ j X Y i c) ∧ Ch (fun q => q = br) w wr
theorem MulRel.step {br m j i : Nat} {X Y : Nat → Nat → Nat} {w wr w2 w3 : World} (h : MulRel br m j i X Y w wr) (h1 : Ch (fun q => q = br) wr w2) (hr : bRow w3 br m (fun c => xr (mulZ j X Y i c) (Gf.mul (Y j c) (X i j)))) (h2 : Ch (fun q => q = br) w2 w3) : MulRel br m (j + 1) i X Y w w3 :=
  ⟨World.rowIs.congr hr fun c _ => by show Value.int .u8 (xr (mulZ j X Y i c) (Gf.mul (Y j c) (X i j)) : Int) = _; rw [Gf.mul_comm]; rfl, (h.2.trans h1).trans h2⟩
set_option maxHeartbeats 1600000 in
theorem mul1_any (w0 : World) (g pa pb pf n k m : Nat) (va vb : Value) (X Y : Nat → Nat → Nat) (h : MulAt w0 g pa pb pf n k m va vb X Y) (i br : Nat) (hi : i < n) (hbr : w0.heap.size ≤ br) (w : World) (hch : Ch (fun j => w0.heap.size ≤ j) w0 w) (hrow : bRow w br m (fun _ => 0)) :
    Calls Try.prog 36 #[.int .i64 (i : Int), .slice (some ⟨br, 0, none⟩) m m, .pointer (some ⟨pb, 0, none⟩), .pointer (some ⟨pf, 0, none⟩), .pointer (some ⟨pa, 0, none⟩)] w (RowPost br m (fun c => mulZ k X Y i c) w) := by
  obtain ⟨ha, hb, hf, ca, cb, cf, k1, k2, m1, m2, n1, n2⟩ := h
  have h0 : MulRel br m 0 i X Y w w := ⟨hrow, Ch.refl _ _⟩
  obtain ⟨ba, oa, Ca, rfl, _, hra⟩ := ha.some (by omega)
  obtain ⟨bb, ob, Cb, rfl, _, hrb⟩ := hb.some (by omega)
  obtain ⟨Ai, Di, cai, _, hai⟩ := hra i hi
  obtain ⟨bi, oi, rfl, hai2⟩ := hai (by omega)
  clear hai
  have HB := Lib.hid hrb
  have HA := Lib.hid hai2
  have HCH := Lib.hid hch
  have HF := Lib.hid hf
  have CA := Lib.hid ca
  have CB := Lib.hid cb
  have CF := Lib.hid cf
  have CI := Lib.hid cai
  have hcb : w.cell? ⟨pb, 0, none⟩ = some (.slice (some ⟨bb, ob, none⟩) k Cb) := hch.cell cb (by have := World.block_lt_of_cell? _ _ cb; show ¬ w0.heap.size ≤ pb; exact Nat.not_le.2 this)
  clear hra hrb hai2 hch hf ca cb cf cai ha hb hrow
  go_enter Try.func36, Try.ntmps36
  go_wp2
  clear hcb
  go_loopw [10, 7] (fun t _ wr => ∃ j : Nat, j ≤ k ∧ t = .int .i64 j ∧ MulRel br m j i X Y w wr) (fun t _ _ => k - (intOf t).toNat)
  case atStart => exact ⟨0, Nat.zero_le _, rfl, h0⟩
  case round =>
    obtain ⟨j, hj, rfl, hrel⟩ := hrel
    by_cases hlt : j < k
    · have hc := HCH.out.trans (hrel.2.mono fun q _ e => by rw [e]; exact hbr)
      have keep : ∀ {p : Addr} {v : Value}, w0.cell? p = some v → wr.cell? p = some v := fun {p v} q => hc.cell q (Nat.not_le.2 (World.block_lt_of_cell? _ _ q))
      obtain ⟨Bj, Dj, cbj, lbj, hbj⟩ := HB.out j hlt
      obtain ⟨bj, oj, rfl, hbj2⟩ := hbj (by omega)
      clear hbj
      have e1 := keep CB.out
      have e2 := keep CF.out
      have e3 := keep cbj
      have e4 := keep CA.out
      have e5 := keep CI.out
      have e6 := keep (HA.out j hlt).1
      have hxj := (HA.out j hlt).2
      have i1 : (0 : Int) ≤ (j : Int) := Int.natCast_nonneg _
      have i2 : (j : Int) < (k : Int) := by omega
      have i3 : (0 : Int) ≤ (i : Int) := Int.natCast_nonneg _
      have i4 : (i : Int) < (n : Int) := by omega
      have hnebj : bj ≠ br := by
        have := World.block_lt_of_cell? _ _ (hbj2 0 (by omega)).1
        have : bj < w0.heap.size := this
        omega
      have hneg : g ≠ br := by have := HF.out.row.lt; omega
      have HX := Lib.hid (show ∀ c, c < m → wr.drew.cell? ⟨bj, oj + c, none⟩ = some (.int .u8 (Y j c : Int)) from fun c hcm => hc.drew.cell (hbj2 c hcm).1 (Nat.not_le.2 (World.block_lt_of_cell? _ _ (hbj2 c hcm).1)))
      have HY := Lib.hid (show Bytes m (Y j) from fun c hcm => (hbj2 c hcm).2)
      have HFR := Lib.hid (show fullAt wr.drew g from HF.out.ch hc.drew (Nat.not_le.2 HF.out.row.lt))
      have HRW := Lib.hid (show bRow wr.drew br m (fun c => mulZ j X Y i c) from World.rowIs.drew hrel.1)
      have HNB := Lib.hid hnebj
      have HNG := Lib.hid hneg
      clear keep hbj2 cbj hc hnebj hneg
      go_wp2
      go_still_tail 13, (by kernel_rfl)
      change wpList _ _ _ _ _ wr.drew
      go_wp2_with fail
      refine (addTimes_any g br m bj oj m Dj _ (by omega) (by omega) (fun c => mulZ j X Y i c) (Y j) wr.drew (by omega) (Nat.le_refl _) (by omega) HFR.out HNG.out HNB.out HRW.out (fun c _ => mulZ_lt _ _ _ _ _) HY.out HX.out).mono ?_
      rintro e w2 ⟨rfl, hr2, hc2⟩
      rw [Int.toNat_natCast] at hr2
      have hnext := hrel.step ((Ch.refl _ wr).drew) hr2 hc2
      clear hr2 hc2
      go_wp2
      go_roundw
      case rel => exact ⟨j + 1, by omega, by go_num, hnext⟩
      case measure => simp [intOf]; omega
    · have HE := Lib.hid (show j = k by omega)
      go_wp2
      go_end0
      rw [HE.out] at hrel
      exact ⟨rfl, hrel.1, hrel.2⟩
theorem mul1_turns (w0 w2 : World) (g pa pb pf n k m : Nat) (va vb : Value) (X Y : Nat → Nat → Nat) (h : MulAt w0 g pa pb pf n k m va vb X Y) (t : Nat) (B : Nat → Nat) (hs : ∀ r, r < n → w0.heap.size ≤ B r) (hch : Ch (fun j => w0.heap.size ≤ j) w0 w2) :
    Turns 36 #[.pointer (some ⟨pb, 0, none⟩), .pointer (some ⟨pf, 0, none⟩), .pointer (some ⟨pa, 0, none⟩)] t n m B (fun i W => Own W t n m B (upto i zeroZ (mulZ k X Y)) ∧ Ch (fun j => w0.heap.size ≤ j) w2 W) := by
  intro i W hi hP
  refine ⟨hP.1.top.cell hi, ?_⟩
  have hB := hs i hi
  refine (mul1_any w0 g pa pb pf n k m va vb X Y h i (B i) hi hB W (hch.trans hP.2) ((hP.1.row i hi).congr fun c _ => by rw [upto_ge (by omega)]; rfl)).mono ?_
  rintro e w' ⟨rfl, hr, hc⟩
  exact ⟨rfl, hP.1.step hi hc hr (fun c _ => mulZ_lt _ _ _ _ _), hP.2.trans (hc.mono fun j _ e => by rw [e]; exact hB)⟩
theorem MatV.lens {w : World} {v : Value} {n : Nat} {L M : Nat → Nat} {Z : Nat → Nat → Nat} (h : MatV w v n L Z) (e : ∀ r, r < n → L r = M r) : MatV w v n M Z := by
  obtain ⟨A, C, h1, h2, h3⟩ := h
  refine ⟨A, C, h1, h2, fun hl => ?_⟩
  obtain ⟨b, o, hA, hc⟩ := h3 hl
  refine ⟨b, o, hA, fun r hr => ?_⟩
  obtain ⟨x, hx, hv⟩ := hc r hr
  exact ⟨x, hx, by rw [← e r hr]; exact hv⟩
theorem may_quiet (v : Value) (n : Nat) (L : Nat → Nat) (Z : Nat → Nat → Nat) (w : World) (k : Nat) (h : MatV w v n L Z) :
    Calls Try.prog 21 #[v] (w.drewN k) fun e w' => e = .returned (.bool (mayB n L)) ∧ ∃ m, w' = w.drewN m :=
  (may_any v n L Z (w.drewN k) (h.drewN k)).mono fun _ _ ⟨he, hw⟩ => ⟨he, k, hw.symm⟩
theorem not_true' : (!true) = false := rfl
set_option maxHeartbeats 1600000 in
theorem mul_new (va vb : Value) (n k : Nat) (L M : Nat → Nat) (X Y : Nat → Nat → Nat) (w : World) (ha : MatV w va n L X) (hb : MatV w vb k M Y) (m1 : mayB n L = true) (m2 : mayB k M = true) (hk : L 0 = k) :
    Calls Try.prog 22 #[va, vb] w (FreshPost n (M 0) (mulZ k X Y) w) := by
  obtain ⟨n1, n2, l1, l2, hL⟩ := mayB_true m1
  obtain ⟨k1, k2, q1, q2, hM⟩ := mayB_true m2
  obtain ⟨ba, oa, Ca, rfl, _, hra⟩ := ha.some (by omega)
  obtain ⟨bb, ob, Cb, rfl, _, hrb⟩ := hb.some (by omega)
  obtain ⟨A0, D0, ca0, _, _⟩ := hra 0 (by omega)
  obtain ⟨B0, E0, cb0, _, _⟩ := hrb 0 (by omega)
  rw [Nat.add_zero, hk] at ca0
  rw [Nat.add_zero] at cb0
  clear hra hrb
  obtain ⟨W, hW⟩ : ∃ W, W = (w.alloc (.cells #[.slice (some ⟨ba, oa, none⟩) n Ca] /-t-/22)).alloc (.cells #[.slice (some ⟨bb, ob, none⟩) k Cb] /-t-/22) := ⟨_, rfl⟩
  have hWc : Ch (fun _ => False) w W := by rw [hW]; exact ((Ch.refl _ _).alloc _ _).alloc _ _
  have hWa := ha.ch hWc (fun _ _ f => f)
  have hWb := hb.ch hWc (fun _ _ f => f)
  have hWs : W.heap.size = w.heap.size + 2 := by rw [hW]; simp
  have c1 : W.cell? ⟨w.heap.size, 0, none⟩ = some (.slice (some ⟨ba, oa, none⟩) n Ca) := by
    rw [hW, World.cell?_of_block (Below.heap_alloc _ _ w.heap.size (by simp))]; exact cell_of_one (heap_alloc_new w _)
  have c2 : W.cell? ⟨w.heap.size + 1, 0, none⟩ = some (.slice (some ⟨bb, ob, none⟩) k Cb) := by
    rw [hW]; exact cell_of_one (by simpa using heap_alloc_new (w.alloc (.cells #[.slice (some ⟨ba, oa, none⟩) n Ca] /-t-/22)) _)
  have c3 := hWc.cell ca0 (fun f => f)
  have c4 := hWc.cell cb0 (fun f => f)
  have b1 : ((k : Int) != (k : Int)) = false := by simp
  have HWS := Lib.hid hWs
  have HWC := Lib.hid hWc
  have HL := Lib.hid hL
  have HM := Lib.hid hM
  have HK := Lib.hid hk
  have i0 : (0 : Int) < (n : Int) := by omega
  have i1 : (0 : Int) < (k : Int) := by omega
  clear hWs hWc hL hM hk ha hb ca0 cb0
  go_enter Try.func22, Try.ntmps22
  go_wp2
  have HW := Lib.hid hW
  rw [← HW.out]
  clear hW
  go_quiet ((go_at_call 21; exact may_quiet _ _ _ _ _ _ (by assumption)))
  go_wp2_with fail
  refine (new_any _).mono ?_
  rintro e w1 ⟨rfl, hfull, hg⟩
  have hsz : (W.drewN nq).heap.size = W.heap.size := rfl
  rw [hsz] at hfull hg ⊢
  have hlt := hfull.lt
  have hch1 : Ch (fun _ => False) W w1 := ((Ch.refl _ W).drewN nq).trans (Gr.ch hg _)
  have d1 := hch1.cell c1 (fun f => f)
  have d2 := hch1.cell c2 (fun f => f)
  have d3 := hch1.cell c3 (fun f => f)
  have d4 := hch1.cell c4 (fun f => f)
  have hws := HWS.out
  have keep : ∀ {p : Addr} {v : Value} (o : Obj), w1.cell? p = some v → (w1.alloc o).cell? p = some v := fun {p v} o q => (World.cell?_of_block (Below.heap_alloc w1 o p.block (World.block_lt_of_cell? _ _ q))).trans q
  have f1 := fun o => keep o d1
  have f2 := fun o => keep o d2
  have f3 := fun o => keep o d3
  have f4 := fun o => keep o d4
  have HF := Lib.hid hfull
  have HC1 := Lib.hid hch1
  have HA := Lib.hid hWa
  have HB := Lib.hid hWb
  clear hfull hch1 hg c1 c2 c3 c4 d1 d2 d3 d4 keep hws hsz hWa hWb
  go_wp2
  obtain ⟨V, hV⟩ : ∃ V, V = w1.alloc (.cells #[.pointer (some ⟨W.heap.size, 0, none⟩)] /-t-/45) := ⟨_, rfl⟩
  have e1 : V.cell? ⟨w.heap.size, 0, none⟩ = some (.slice (some ⟨ba, oa, none⟩) n Ca) := by rw [hV]; exact f1 _
  have e2 : V.cell? ⟨w.heap.size + 1, 0, none⟩ = some (.slice (some ⟨bb, ob, none⟩) k Cb) := by rw [hV]; exact f2 _
  have e4 := show V.cell? ⟨bb, ob, none⟩ = some (.slice B0 (M 0) E0) by rw [hV]; exact f4 _
  have e5 : V.cell? ⟨w1.heap.size, 0, none⟩ = some (.pointer (some ⟨W.heap.size, 0, none⟩)) := by rw [hV]; exact cell_of_one (heap_alloc_new w1 _)
  have hVc : Ch (fun _ => False) w1 V := by rw [hV]; exact (Ch.refl _ _).alloc _ _
  have hVs : V.heap.size = w1.heap.size + 1 := by rw [hV]; simp
  have HVC := Lib.hid hVc
  have HVS := Lib.hid hVs
  rw [← hV]
  clear hVc hVs hV f1 f2 f3 f4
  have kpos : 0 < k := by omega
  go_still_tail 6, (by kernel_rfl)
  change wpList _ _ _ _ _ V.drew
  go_wp2_with fail
  refine (blank_any _ _ (by omega) (by omega) (by omega) (by omega) V.drew).mono ?_
  rintro e w2 ⟨rfl, hown, hch⟩
  have hsz : V.drew.heap.size = V.heap.size := rfl
  rw [hsz, Int.toNat_natCast, Int.toNat_natCast] at hown
  rw [hsz, Int.toNat_natCast]
  have hch2 : Ch (fun _ => False) V w2 := ((Ch.refl _ V).drew).trans hch
  have hWV : Ch (fun _ => False) W V := HC1.out.trans HVC.out
  have hat : MulAt V W.heap.size w.heap.size (w.heap.size + 1) w1.heap.size n k (M 0) (.slice (some ⟨ba, oa, none⟩) n Ca) (.slice (some ⟨bb, ob, none⟩) k Cb) X Y :=
    ⟨(HA.out.ch hWV (fun _ _ f => f)).lens (fun r hr => by rw [HL.out r hr, HK.out]), (HB.out.ch hWV (fun _ _ f => f)).lens (fun r hr => HM.out r hr), fullAt.ch HF.out HVC.out (fun f => f), e1, e2, e5, k1, k2, q1, q2, n1, n2⟩
  have hT := mul1_turns V w2 _ _ _ _ _ _ _ _ _ X Y hat V.heap.size (fun r => V.heap.size + 1 + r) (fun r _ => by omega) (hch2.mono fun _ _ f => f.elim)
  have HT := Lib.hid hT
  have HO := Lib.hid hown
  have hvs := HVS.out
  have hws := HWS.out
  have hchw : Ch (fun _ => False) w w2 := (HWC.out.trans hWV).trans hch2
  have hsz2 : w.heap.size ≤ V.heap.size := by omega
  clear hown hat hT hch hch2 hWV hvs hws hsz e1 e2 e4 e5
  go_wp2_with fail
  refine (turn3_any 36 _ _ _ _ _ _ _ _ w2 (by omega) enter32 HT.out ⟨HO.out.start _, Ch.refl _ _⟩).mono ?_
  rintro e w3 ⟨rfl, hP, hch2⟩
  go_wp2
  go_ret2
  refine ⟨_, rfl, hP.finish.bld (by omega) (by omega) hsz2 (fun r _ => by omega), Ch.gr ?_⟩
  exact ((hchw.mono fun _ _ f => f.elim).trans hch2).mono fun i hi hS => by omega
theorem mul_yes (va vb : Value) (n k : Nat) (L M : Nat → Nat) (X Y : Nat → Nat → Nat) (w : World) (ha : MatV w va n L X) (hb : MatV w vb k M Y) (m1 : mayB n L = true) (m2 : mayB k M = true) (hk : L 0 = k) :
    Calls Try.prog 22 #[va, vb] w (MatPost n (M 0) (mulZ k X Y) w) := (mul_new va vb n k L M X Y w ha hb m1 m2 hk).mono fun _ _ h => h.mat (by have := (mayB_true m1).2.1; omega)
#print axioms mul_yes

/-- What stands when Mul has boxed its arguments. -/
theorem boxed2 (w : World) (va vb : Value) (n k : Nat) (L M : Nat → Nat) (X Y : Nat → Nat → Nat) (ha : MatV w va n L X) (hb : MatV w vb k M Y) :
    ∃ W, W = (w.alloc (.cells #[va] /-t-/22)).alloc (.cells #[vb] /-t-/22) ∧ Ch (fun _ => False) w W ∧ MatV W va n L X ∧ MatV W vb k M Y ∧ W.cell? ⟨w.heap.size, 0, none⟩ = some va ∧ W.cell? ⟨w.heap.size + 1, 0, none⟩ = some vb := by
  have hWc : Ch (fun _ => False) w ((w.alloc (.cells #[va] /-t-/22)).alloc (.cells #[vb] /-t-/22)) := ((Ch.refl _ _).alloc _ _).alloc _ _
  refine ⟨_, rfl, hWc.gr, ha.ch hWc (fun _ _ f => f), hb.ch hWc (fun _ _ f => f), ?_, ?_⟩
  · rw [World.cell?_of_block (Below.heap_alloc _ _ w.heap.size (by simp))]; exact cell_of_one (heap_alloc_new w _)
  · exact cell_of_one (by simpa using heap_alloc_new (w.alloc (.cells #[va] /-t-/22)) _)
set_option maxHeartbeats 1600000 in
theorem mul_noA (va vb : Value) (n k : Nat) (L M : Nat → Nat) (X Y : Nat → Nat → Nat) (w : World) (ha : MatV w va n L X) (hb : MatV w vb k M Y) (m1 : mayB n L = false) :
    Calls Try.prog 22 #[va, vb] w (ErrPost 1 w) := by
  obtain ⟨W, hW, hg, hWa, hWb, c1, c2⟩ := boxed2 w va vb n k L M X Y ha hb
  obtain ⟨A, Ca, rfl, _, _⟩ := ha
  obtain ⟨A', Cb, rfl, _, _⟩ := hb
  go_enter Try.func22, Try.ntmps22
  go_wp2
  have HW := Lib.hid hW
  rw [← HW.out]
  clear hW
  go_quiet ((go_at_call 21; exact may_quiet _ _ _ _ _ _ (by assumption)))
  go_wp2
  go_ret2
  exact ⟨rfl, hg.drewN _⟩
set_option maxHeartbeats 1600000 in
theorem mul_noB (va vb : Value) (n k : Nat) (L M : Nat → Nat) (X Y : Nat → Nat → Nat) (w : World) (ha : MatV w va n L X) (hb : MatV w vb k M Y) (m1 : mayB n L = true) (m2 : mayB k M = false) :
    Calls Try.prog 22 #[va, vb] w (ErrPost 1 w) := by
  obtain ⟨W, hW, hg, hWa, hWb, c1, c2⟩ := boxed2 w va vb n k L M X Y ha hb
  obtain ⟨A, Ca, rfl, _, _⟩ := ha
  obtain ⟨A', Cb, rfl, _, _⟩ := hb
  go_enter Try.func22, Try.ntmps22
  go_wp2
  have HW := Lib.hid hW
  rw [← HW.out]
  clear hW
  go_quiet ((go_at_call 21; exact may_quiet _ _ _ _ _ _ (by assumption)))
  go_wp2
  go_ret2
  exact ⟨rfl, hg.drewN _⟩
set_option maxHeartbeats 1600000 in
theorem mul_noC (va vb : Value) (n k : Nat) (L M : Nat → Nat) (X Y : Nat → Nat → Nat) (w : World) (ha : MatV w va n L X) (hb : MatV w vb k M Y) (m1 : mayB n L = true) (m2 : mayB k M = true) (hk : L 0 ≠ k) :
    Calls Try.prog 22 #[va, vb] w (ErrPost 1 w) := by
  obtain ⟨W, hW, hg, hWa, hWb, c1, c2⟩ := boxed2 w va vb n k L M X Y ha hb
  have hn := (mayB_true m1).1
  obtain ⟨b, o, C, rfl, _, hr⟩ := hWa.some (by omega)
  obtain ⟨A0, D0, ca0, _, _⟩ := hr 0 (by omega)
  rw [Nat.add_zero] at ca0
  obtain ⟨A', Cb, rfl, _, _⟩ := hb
  have b1 : ((L 0 : Int) != (k : Int)) = true := by simp; omega
  have i0 : (0 : Int) < (n : Int) := by omega
  clear hr hk
  go_enter Try.func22, Try.ntmps22
  go_wp2
  have HW := Lib.hid hW
  rw [← HW.out]
  clear hW
  go_quiet ((go_at_call 21; exact may_quiet _ _ _ _ _ _ (by assumption)))
  go_wp2
  go_ret2
  exact ⟨rfl, hg.drewN _⟩
theorem mul_no (va vb : Value) (n k : Nat) (L M : Nat → Nat) (X Y : Nat → Nat → Nat) (w : World) (ha : MatV w va n L X) (hb : MatV w vb k M Y) (h : ¬ (mayB n L = true ∧ mayB k M = true ∧ L 0 = k)) :
    Calls Try.prog 22 #[va, vb] w (ErrPost 1 w) := by
  cases m1 : mayB n L with
  | false => exact mul_noA va vb n k L M X Y w ha hb m1
  | true =>
    cases m2 : mayB k M with
    | false => exact mul_noB va vb n k L M X Y w ha hb m1 m2
    | true => exact mul_noC va vb n k L M X Y w ha hb m1 m2 (fun e => h ⟨m1, m2, e⟩)
#print axioms mul_no
#print axioms mul1_any
end Go.Proofs.Ytlgdajmidcdiaaa
