/-
  (*disk.Disk).Write, walked.
-/
import Derived.Test.YtlbdopcchoklhaaGreatMh22
import Derived.Deep.WholeRow
import Derived.OrdersHeld
import Derived.BigRegion
namespace Go.Proofs.YtlbdopcchoklhaaGreat
open Go.RowKit
set_option linter.unusedVariables false
set_option maxRecDepth 100000

def wr1 (d : Dev) : Dev := { diesD d with ops := d.ops + 1 }
def writeE (d : Dev) (a : Int) (n : Nat) : Int := if openE d a = 0 then (if n = 256 then (if diesB d then 21 else 0) else 1) else openE d a
def writeD (d : Dev) (a : Int) (n : Nat) (z : Nat → Nat) : Dev :=
  if openE d a = 0 ∧ n = 256 then (if diesB d then diesD d else if aimC (wr1 d) a.toNat then { aimD (wr1 d) a.toNat with W := d.W ++ [⟨aimT (wr1 d) a.toNat, z⟩] } else aimD (wr1 d) a.toNat) else d
theorem aimD_nW (d : Dev) (a : Nat) : (aimD d a).n = d.n ∧ (aimD d a).W = d.W := by
  unfold aimD
  split
  · exact ⟨rfl, rfl⟩
  · split <;> exact ⟨rfl, rfl⟩
theorem diesD_more (d : Dev) : (diesD d).n = d.n ∧ (diesD d).W = d.W ∧ (diesD d).ops = d.ops ∧ (diesD d).drops = d.drops := by
  unfold diesD
  split
  · split <;> exact ⟨rfl, rfl, rfl, rfl⟩
  · exact ⟨rfl, rfl, rfl, rfl⟩
/-- A variable for the write is made, and the bytes are laid into it. -/
structure WrR (w wz wy wx : World) (H tto : Nat) (z : Nat → Nat) (sv : Value) : Prop where
  al : w.alloc (.cells (wtC ⟨0, fun _ => 0⟩).toArray 95) = wz
  sz : w.heap.size = H
  st : (storeVar 95 ⟨H, 0, none⟩ (.agg (Value.int .i64 (tto : Int) :: bytesL 256 (fun _ => 0)).toArray)).run Tryz.prog wz = .ok () wy
  cp : ∀ ty, (Builtin.copy_ #[ /-t-/24, /-t-/24] ty #[.slice (some ⟨H, 1, none⟩) 256 256, sv]).run Tryz.prog wy = .ok (goInt (bytesL 256 z).length) wx
  cx : wx.heap[H]? = some (.cells (wtC ⟨tto, z⟩).toArray 95 (0, 0))
  ch : Ch (fun _ => False) w wx
  sx : wx.heap.size = H + 1
theorem wt_laid (tto : Nat) (z y : Nat → Nat) : ((wtC ⟨tto, y⟩).toArray.toList.take 1 ++ bytesL 256 z ++ (wtC ⟨tto, y⟩).toArray.toList.drop (1 + (bytesL 256 z).length)).toArray = (wtC ⟨tto, z⟩).toArray := by
  have e1 : (wtC ⟨tto, y⟩).toArray.toList = wtC ⟨tto, y⟩ := rfl
  have e2 : (wtC ⟨tto, y⟩).drop (1 + (bytesL 256 z).length) = [] := List.drop_eq_nil_of_le (by rw [bytesL_len, wtC_len]; omega)
  have e3 : (wtC ⟨tto, y⟩).take 1 = [Value.int .i64 (tto : Int)] := by unfold wtC; rw [List.take_succ_cons, List.take_zero]
  rw [e1, e2, e3, List.append_nil]
  rfl
theorem wrR (w : World) (tto : Nat) (z : Nat → Nat) (b o C : Nat) (h : RowV w (.slice (some ⟨b, o, none⟩) 256 C) 256 z) : ∃ wz wy wx, WrR w wz wy wx w.heap.size tto z (.slice (some ⟨b, o, none⟩) 256 C) := by
  have h2 : RowV (w.alloc (.cells (wtC ⟨tto, fun _ => 0⟩).toArray 95)) (.slice (some ⟨b, o, none⟩) 256 C) 256 z := h.gr ((Ch.refl _ w).alloc _ _)
  obtain ⟨b', o', e, hc⟩ := h2.at (by omega)
  injection e with e
  injection e with e1 e2
  subst e1
  subst e2
  refine ⟨_, w.alloc (.cells (wtC ⟨tto, fun _ => 0⟩).toArray 95), w.alloc (.cells (wtC ⟨tto, z⟩).toArray 95), rfl, rfl, ?_, ?_, heap_alloc_new _ _, (Ch.refl _ w).alloc _ _, by simp⟩
  · exact run_storeVar_new (P := Tryz.prog) w _ _ _ (by rw [List.size_toArray]; exact info_wt ⟨tto, fun _ => 0⟩) (by rw [wtC_arr]; simp [bytesL_len]) (all_oneCell_toArray (wtC_one ⟨tto, fun _ => 0⟩))
  · intro ty
    have := run_copy_row (P := Tryz.prog) (w.alloc (.cells (wtC ⟨tto, fun _ => 0⟩).toArray 95)) /-t-/24 /-t-/24 ty /-t-/5 w.heap.size 1 256 256 ⟨b, o, none⟩ 256 C (wtC ⟨tto, fun _ => 0⟩).toArray 95 (bytesL 256 z) Tryz.underlying24 size_byte (heap_alloc_new _ _) (by rw [bytesL_len]; rfl)
      (fun j v hj => by
        have hj2 : j < 256 := by
          have := (List.getElem?_eq_some_iff.1 hj).1
          rwa [bytesL_len] at this
        rw [add_pl, hc j hj2, ← hj, bytesL_get hj2]) (by rw [bytesL_len, wtC_arr]; omega) bytesL_one
    rw [World.setRow_alloc_new] at this
    rw [wt_laid] at this
    exact this
theorem RowV.far {w w' : World} {b o n C : Nat} {z : Nat → Nat} {S : Nat → Prop} (h : RowV w (.slice (some ⟨b, o, none⟩) n C) n z) (k : Ch S w w') (hS : ¬ S b) : RowV w' (.slice (some ⟨b, o, none⟩) n C) n z := by
  obtain ⟨A, D, e, h1, h2⟩ := h
  refine ⟨A, D, e, h1, fun hn => ?_⟩
  obtain ⟨b2, o2, hA, hc⟩ := h2 hn
  injection e with e1 _ _
  rw [hA] at e1
  injection e1 with e1
  injection e1 with e1 e2
  subst e1
  exact ⟨_, _, hA, fun c hcn => ⟨k.cell (hc c hcn).1 hS, (hc c hcn).2⟩⟩
/-- What waits, one write more. -/
theorem DevIs.wait {base : Nat} {w0 wx w2 : World} {p0 p : Ph} {d0 d : Dev} {x : Wt} {g cap : Nat} {r : Value} (h : DevIs base wx p d) (hn : d.n = d0.n) (hf : ∀ i, Foot p d i → Foot p0 d0 i ∨ w0.heap.size ≤ i) (hB : p.B = p0.B) (hk : Ch (Foot p0 d0) w0 wx)
    (ho : w2.ownsRow base 95 257 (.slice (some ⟨g, 0, none⟩) (d.W.length + 1) cap) (d.W ++ [x]).length (wtsL (d.W ++ [x]))) (hg : (wx.alloc (.cells (wtC x).toArray 95)).grownBy w2 p.V.ownBlock) (hv : p.V.ownBlock = some g ∨ g = wx.heap.size + 1) (hx : x.pl < d.n ∧ Bytes 256 x.z) :
    DPost base p0 d0 { d with W := d.W ++ [x] } r w0 (.returned r) (w2.setCell ⟨p.B, 1, none⟩ (.slice (some ⟨g, 0, none⟩) (d.W.length + 1) cap)) ∧ w2.cell? ⟨p.B, 1, none⟩ = some p.V ∧ w2.frozen? ⟨p.B, 1, none⟩ = false := by
  have k1 : Ch (fun i => p.V.ownBlock = some i) wx w2 := ((Ch.refl _ wx).alloc _ _).grown hg (fun i hi => Or.inl hi)
  have hb2 : w2.heap[p.B]? = some (.cells (devC p d) 92 (0, 0)) := (k1.block _ (blk_lt h.blk) h.BV).trans h.blk
  have k2 : Ch (fun i => i = p.B ∨ p.V.ownBlock = some i) wx (w2.setCell ⟨p.B, 1, none⟩ (.slice (some ⟨g, 0, none⟩) (d.W.length + 1) cap)) := Ch.setCell (S := fun i => i = p.B ∨ p.V.ownBlock = some i) (k1.mono fun _ _ e => Or.inr e) (p := ⟨p.B, 1, none⟩) (Or.inl (Or.inl rfl)) _
  have hgB : g ≠ p.B := fun e => by
    rcases hv with q | q
    · exact h.BV (e ▸ q)
    · have := blk_lt h.blk; omega
  refine ⟨⟨rfl, { p with V := .slice (some ⟨g, 0, none⟩) (d.W.length + 1) cap }, hB, ?_, ?_, ?_⟩, blk_cell hb2, blk_frozen hb2⟩
  · refine h.turnW k2 (blk_set hb2 _) (own_of ho (fun i hi => ?_)) (fun y hy => ?_)
    · have e : g = i := by injection hi
      subst e
      exact (Ch.setCell (S := fun j => j = p.B) (Ch.refl _ w2) (p := ⟨p.B, 1, none⟩) (Or.inl rfl) _).block g (blk_lt (own_at ho rfl).2.choose_spec) hgB
    · rcases List.mem_append.1 hy with q | q
      · exact h.wok y q
      · rw [List.mem_singleton.1 q]; exact hx
  · intro i hi
    rcases foot_turnW (p := p) (d := d) (V' := .slice (some ⟨g, 0, none⟩) (d.W.length + 1) cap) (W' := d.W ++ [x]) wx.heap.size (fun i hi => by
      have e : g = i := by injection hi
      subst e
      rcases hv with q | q
      · exact Or.inl q
      · exact Or.inr (by omega)) i hi with q | q
    · exact hf i q
    · exact Or.inr (Nat.le_trans hk.size q)
  · refine ⟨k2.os.trans hk.os, k2.tape.trans hk.tape, k2.output.trans hk.output, Nat.le_trans hk.size k2.size, fun i hi hS => ?_⟩
    rw [k2.block i (Nat.lt_of_lt_of_le hi hk.size) (fun e => ?_)]
    · exact hk.block i hi hS
    · rcases e with e | e
      · exact hS (Or.inl (e.trans hB))
      · rcases hf i (Or.inr (Or.inr (Or.inl e))) with q | q
        · exact hS q
        · omega
theorem write_bad {d : Dev} {a : Int} {n : Nat} {z : Nat → Nat} (h : ¬ openE d a = 0) : writeE d a n = openE d a ∧ writeD d a n z = d := by unfold writeE writeD; simp [h]
theorem write_len {d : Dev} {a : Int} {n : Nat} {z : Nat → Nat} (h : openE d a = 0) (hn : ¬ n = 256) : writeE d a n = 1 ∧ writeD d a n z = d := by unfold writeE writeD; simp [h, hn]
theorem write_dies {d : Dev} {a : Int} {z : Nat → Nat} (h : openE d a = 0) (hy : diesB d = true) : writeE d a 256 = 21 ∧ writeD d a 256 z = diesD d := by unfold writeE writeD; simp [h, hy]
theorem write_drop {d : Dev} {k : Nat} {z : Nat → Nat} (h : openE d k = 0) (hy : diesB d = false) (hc : aimC (wr1 d) k = false) : writeE d k 256 = 0 ∧ writeD d k 256 z = aimD (wr1 d) k := by unfold writeE writeD; simp [h, hy, hc]
theorem write_goes {d : Dev} {k : Nat} {z : Nat → Nat} (h : openE d k = 0) (hy : diesB d = false) (hc : aimC (wr1 d) k = true) : writeE d k 256 = 0 ∧ writeD d k 256 z = { aimD (wr1 d) k with W := d.W ++ [⟨aimT (wr1 d) k, z⟩] } := by unfold writeE writeD; simp [h, hy, hc]
/-- The first half of a write: it does not die, and is counted. -/
theorem DevIs.count {base : Nat} {w w1 : World} {p : Ph} {d : Dev} (h1 : DevIs base w1 p (diesD d)) (hc1 : Ch (Foot p d) w w1) : ∃ w2, w1.setCell ⟨p.B, 5, none⟩ (.int .i64 ((d.ops : Int) + 1)) = w2 ∧ DevIs base w2 p (wr1 d) ∧ Ch (Foot p d) w w2 := by
  have h2 : DevIs base (w1.setCell ⟨p.B, 5, none⟩ (.int .i64 ((d.ops + 1 : Nat) : Int))) p (wr1 d) := h1.setOps (d.ops + 1)
  have hc2 : Ch (Foot p d) w (w1.setCell ⟨p.B, 5, none⟩ (.int .i64 ((d.ops + 1 : Nat) : Int))) := hc1.setCell (p := ⟨p.B, 5, none⟩) (Or.inl (Or.inl rfl)) _
  rw [show ((d.ops + 1 : Nat) : Int) = (d.ops : Int) + 1 by omega] at h2 hc2
  exact ⟨_, rfl, h2, hc2⟩
set_option maxHeartbeats 1600000 in
set_option maxRecDepth 100000 in
theorem write_any (base : Nat) (p : Ph) (d : Dev) (a : Int) (sb so n C : Nat) (z : Nat → Nat) (w : World) (h : DevIs base w p d) (hs : RowV w (.slice (some ⟨sb, so, none⟩) n C) n z) (hsf : ¬ Foot p d sb)
    (ho : d.ops ≤ 1152921504606846976) (hW : d.W.length ≤ 1048575) (hdr : ∀ a, d.drops a ≤ 1152921504606846976) :
    Calls Tryz.prog 47 #[.pointer (some ⟨p.B, 0, none⟩), .int .i64 a, .slice (some ⟨sb, so, none⟩) n C] w (DPost base p d (writeD d a n z) (.int .i64 (writeE d a n)) w) := by
  have HO := Lib.hid (open_any base p d a w h)
  by_cases hop : openE d a = 0
  · obtain ⟨hd, k, rfl, hk⟩ := openE_ok hop
    rw [hop] at HO
    by_cases hn : n = 256
    · subst hn
      have HY := Lib.hid (dies_any base p d w h)
      cases hy : diesB d
      · rw [hy] at HY
        have HD1 := Lib.hid (diesD_more d)
        have HZ := Lib.hid hs.bytes
        have HSR := Lib.hid hs
        have HSF := Lib.hid hsf
        have HDR := Lib.hid hdr
        have HK := Lib.hid hk
        have HN := Lib.hid (show (wr1 d).n = d.n from HD1.out.1)
        have HWL := Lib.hid (show (wr1 d).W = d.W from HD1.out.2.1)
        cases hcm : aimC (wr1 d) k
        · have hS := write_drop (z := z) hop hy hcm
          rw [hS.1, hS.2]
          have HCM := Lib.hid hcm
          clear hS hs hsf hdr hop hy hd hk h hcm
          go_enter Tryz.func47, Tryz.ntmps47
          go_wp2_with fail
          refine HO.out.mono ?_
          rintro e w' ⟨rfl, rfl⟩
          go_wp2_with fail
          refine HY.out.mono ?_
          rintro e w1 ⟨rfl, h1, hc1⟩
          have c5 : w1.cell? ⟨p.B, 5, none⟩ = some (.int .i64 ((diesD d).ops : Int)) := h1.cellB 5
          rw [HD1.out.2.2.1] at c5
          have f5 := h1.frB 5
          obtain ⟨w2, hw2, h2, hc2⟩ := h1.count hc1
          have HA := Lib.hid (aim_any base p (wr1 d) k w2 h2 (by rw [HN.out]; exact HK.out) (by show (diesD d).drops k ≤ _; rw [HD1.out.2.2.2]; exact HDR.out k))
          rw [HCM.out] at HA
          have HC2 := Lib.hid hc2
          clear h1 hc1 h2 hc2 HY HO HDR
          obtain ⟨B, G, V, m, cG⟩ := p
          go_wp2_with fail
          refine HA.out.mono ?_
          rintro e w3 ⟨rfl, p3, hp3, h3, hf3, hc3⟩
          have HP := Lib.hid (show DPost base ⟨B, G, V, m, cG⟩ d (aimD (wr1 d) k) (.int .i64 0) w (.returned (.int .i64 0)) w3 from ⟨rfl, p3, hp3, h3, fun i hi => by
            rcases hf3 i hi with q | q
            · exact Or.inl ((foot_n HN.out).1 q)
            · exact Or.inr (Nat.le_trans HC2.out.size q), HC2.out.trans (hc3.mono fun i _ hi => (foot_n HN.out).1 hi)⟩)
          clear h3 hf3 hc3 hp3
          go_wp2
          go_ret
          exact HP.out
        · have hS := write_goes (z := z) hop hy hcm
          rw [hS.1, hS.2]
          have HCM := Lib.hid hcm
          obtain ⟨tto, hto⟩ : ∃ tto, tto = aimT (wr1 d) k := ⟨_, rfl⟩
          obtain ⟨e3, he3⟩ : ∃ e3, e3 = aimD (wr1 d) k := ⟨_, rfl⟩
          have HE3 := Lib.hid (show e3.n = d.n ∧ e3.W = d.W by rw [he3]; exact ⟨(aimD_nW _ _).1.trans HN.out, (aimD_nW _ _).2.trans HWL.out⟩)
          have HTO := Lib.hid hto
          have HE := Lib.hid he3
          rw [← hto, ← he3]
          clear hS hs hsf hdr hop hy hd hk h hcm hto he3
          go_enter Tryz.func47, Tryz.ntmps47
          go_wp2_with fail
          refine HO.out.mono ?_
          rintro e w' ⟨rfl, rfl⟩
          go_wp2_with fail
          refine HY.out.mono ?_
          rintro e w1 ⟨rfl, h1, hc1⟩
          have c5 : w1.cell? ⟨p.B, 5, none⟩ = some (.int .i64 ((diesD d).ops : Int)) := h1.cellB 5
          rw [HD1.out.2.2.1] at c5
          have f5 := h1.frB 5
          obtain ⟨w2, hw2, h2, hc2⟩ := h1.count hc1
          have HA := Lib.hid (aim_any base p (wr1 d) k w2 h2 (by rw [HN.out]; exact HK.out) (by show (diesD d).drops k ≤ _; rw [HD1.out.2.2.2]; exact HDR.out k))
          have HAT := Lib.hid (aimT_lt h2 (a := k) (by rw [HN.out]; exact HK.out))
          rw [HCM.out, ← HTO.out, ← HE.out] at HA
          rw [← HTO.out, HN.out] at HAT
          have HC2 := Lib.hid hc2
          clear h1 hc1 h2 hc2 HY HO HDR
          obtain ⟨B, G, V, m, cG⟩ := p
          go_wp2_with fail
          refine HA.out.mono ?_
          rintro e w3 ⟨rfl, p3, hp3, h3, hf3, hc3⟩
          have hk3 : Ch (Foot ⟨B, G, V, m, cG⟩ d) w w3 := HC2.out.trans (hc3.mono fun i _ hi => (foot_n HN.out).1 hi)
          obtain ⟨wz, wy, wx, hR⟩ := wrR w3 tto z sb so C (HSR.out.far hk3 HSF.out)
          obtain ⟨H, hH⟩ : ∃ H, H = w3.heap.size := ⟨_, rfl⟩
          rw [← hH] at hR
          obtain ⟨wd, hwd⟩ : ∃ wd, wd = wx.drew := ⟨_, rfl⟩
          have kd : Ch (fun _ => False) w3 wd := by rw [hwd]; exact hR.ch.drew
          have hx3 : DevIs base wd p3 e3 := h3.gr kd
          have hkx : Ch (Foot ⟨B, G, V, m, cG⟩ d) w wd := hk3.trans (kd.mono fun _ _ f => f.elim)
          have hfx : ∀ i, Foot p3 e3 i → Foot ⟨B, G, V, m, cG⟩ d i ∨ w.heap.size ≤ i := fun i hi => by
            rcases hf3 i hi with q | q
            · exact Or.inl ((foot_n HN.out).1 q)
            · exact Or.inr (Nat.le_trans HC2.out.size q)
          have hlen : e3.W.length = d.W.length := by rw [HE3.out.2]
          have hown : (wd.alloc (.cells (wtC ⟨tto, z⟩).toArray 95)).ownsRow base 95 257 p3.V e3.W.length (wtsL e3.W) := own_of hx3.wts (fun i hi => ((Ch.refl (fun _ => False) wd).alloc _ _).block i (blk_lt (own_at hx3.wts hi).2.choose_spec) (fun f => f))
          obtain ⟨g, cap, w4, hr4, ho4, hg4, hv4⟩ := app_wt (x := ⟨tto, z⟩) (ad := ⟨wd.heap.size, 0, none⟩) (C := 1) hown (Nat.le_trans (Nat.le_trans hx3.lowB (Nat.le_of_lt (blk_lt hx3.blk))) (by simp)) (fun j u hu => by rw [add_pl, Nat.zero_add, alloc_cell, List.getElem?_toArray]; exact hu) (by omega)
          rw [show (wd.alloc (.cells (wtC ⟨tto, z⟩).toArray 95)).heap.size = wd.heap.size + 1 by simp] at hv4
          obtain ⟨hp4, c14, f14⟩ := hx3.wait (r := .int .i64 0) HE3.out.1 hfx hp3 hkx ho4 hg4 hv4 ⟨by rw [HE3.out.1]; exact HAT.out, HZ.out⟩
          rw [HE3.out.2, hp3] at hp4
          have c1x : wd.cell? ⟨B, 1, none⟩ = some p3.V := by have := hx3.cellB 1; rw [hp3] at this; exact this
          rw [hp3] at c14 f14
          obtain ⟨ws, hws⟩ : ∃ ws, ws = wd.alloc (.cells (wtC ⟨tto, z⟩).toArray 95) := ⟨_, rfl⟩
          obtain ⟨K2, hK2⟩ : ∃ K2, K2 = wd.heap.size := ⟨_, rfl⟩
          have hHd : wd.heap[H]? = some (.cells (wtC ⟨tto, z⟩).toArray 95 (0, 0)) := by rw [hwd]; exact hR.cx
          have hHs : ws.heap[H]? = some (.cells (wtC ⟨tto, z⟩).toArray 95 (0, 0)) := by rw [hws]; exact (((Ch.refl (fun _ => False) wd).alloc _ _).block H (blk_lt hHd) (fun f => f)).trans hHd
          have hVH : p3.V.ownBlock ≠ some H := fun e => by
            have := (h3.foot (Or.inr (Or.inr (Or.inl e)))).2
            omega
          have hBH : H ≠ B := fun e => by
            have := (h3.foot (i := B) (Or.inl hp3.symm)).2
            omega
          rw [← hws, ← hK2] at hr4
          rw [← hws] at hg4
          have hH4 : w4.heap[H]? = some (.cells (wtC ⟨tto, z⟩).toArray 95 (0, 0)) := by rw [hg4.block H (blk_lt hHs) (fun e => hVH e.symm)]; exact hHs
          have rg : ∀ {W : World}, W.heap[H]? = some (.cells (wtC ⟨tto, z⟩).toArray 95 (0, 0)) → W.rangeAt H 0 (wtC ⟨tto, z⟩) := fun {W} hw j v hj => by rw [Nat.zero_add, blk_cell hw, List.getElem?_toArray]; exact hj
          have HRd := Lib.hid (rg hHd)
          have HRs := Lib.hid (rg hHs)
          have HR4 := Lib.hid (rg hH4)
          obtain ⟨N, hN⟩ : ∃ N, N = d.W.length + 1 := ⟨_, rfl⟩
          rw [hlen] at hr4
          rw [← hN] at hp4 hr4
          have HR5 := Lib.hid (rg (W := w4.setCell ⟨B, 1, none⟩ (.slice (some ⟨g, 0, none⟩) N cap)) (((Ch.setCell (S := fun j => j = B) (Ch.refl _ w4) (p := ⟨B, 1, none⟩) (Or.inl rfl) _).block H (blk_lt hH4) hBH).trans hH4))
          have hsl := slice_one wd ⟨tto, z⟩
          rw [← hws, ← hK2] at hsl
          have HSL := Lib.hid hsl
          have HRUN := Lib.hid hr4
          have HP := Lib.hid hp4
          have HR := Lib.hid hR
          have HWD := Lib.hid hwd
          have c1s : ws.cell? ⟨B, 1, none⟩ = some p3.V := by rw [hws]; exact Lib.cell?_alloc_some _ c1x
          obtain ⟨A3, C3, hV3⟩ := hx3.vform
          obtain ⟨L3, hL3⟩ : ∃ L3, L3 = e3.W.length := ⟨_, rfl⟩
          rw [← hL3] at hV3
          rw [hV3] at c1x c1s c14 HRUN
          clear hsl hr4 hp4 hR rg hH4 hBH hVH hHs hHd hg4 hv4 ho4 hown hfx hkx hx3 kd hk3 h3 hf3 hc3 hp3 hN hws hK2 hH hlen hwd hV3 hL3
          go_wp2_with ((with_reducible refine wpList_same ?_); first
            | refine wpList_building1 _ rfl 95 0 (.tmp 36) rfl (.int .i64 (tto : Int)) (.agg (Value.int .i64 (tto : Int) :: bytesL 256 (fun _ => 0)).toArray) rfl (by exact built_write _ _) ?_
            | refine wpList_making _ wz rfl 95 rfl (wtC ⟨0, fun _ => 0⟩).toArray H (by exact zero_write _) (by exact HR.out.sz) (by exact HR.out.al) ?_
            | refine wpList_storing _ wy rfl 95 (.tmp 10) (.tmp 37) rfl (.agg (Value.int .i64 (tto : Int) :: bytesL 256 (fun _ => 0)).toArray) ⟨H, 0, none⟩ rfl rfl (by exact HR.out.st) ?_
            | refine wpList_cpy_of _ rfl (.tmp 39) (.tmp 40) rfl (.slice (some ⟨H, 1, none⟩) 256 256) (.slice (some ⟨sb, so, none⟩) 256 C) (goInt (bytesL 256 z).length) wx rfl rfl (by exact HR.out.cp) ?_)
          refine wp_region_held (S := fun W' => W'.rangeAt H 0 (wtC ⟨tto, z⟩)) (by kernel_rfl) ?_
          change wpAnyH _ _ _ _ _ _ _ _ (World.drew _)
          rw [← HWD.out]
          have HS : (fun W' : World => W'.rangeAt H 0 (wtC ⟨tto, z⟩)) wd := HRd.out
          obtain ⟨dsc, hds, hdr⟩ := under_wt
          refine wpAnyH_take (i := 0) (v := .pointer (some ⟨B, 0, none⟩)) rfl (by kernel_rfl) (by kernel_rfl) (by kernel_rfl) (fun _ _ _ h => h) (Or.inl ⟨by rfl, fun w' hS => ?_⟩) HS ?_
          · clear hS; go_simp
          refine wpAnyH_take (i := 1) (v := .pointer (some ⟨B, 0, none⟩)) rfl (by kernel_rfl) (by kernel_rfl) (by kernel_rfl) (fun _ _ _ h => h) (Or.inl ⟨by rfl, fun w' hS => ?_⟩) HS ?_
          · clear hS; go_simp
          refine wpAnyH_take (i := 2) (v := .pointer (some ⟨B, 0, none⟩)) rfl (by kernel_rfl) (by kernel_rfl) (by kernel_rfl) (fun _ _ _ h => h) (Or.inl ⟨by rfl, fun w' hS => ?_⟩) HS ?_
          · clear hS; go_simp
          refine wpAnyH_take (i := 3) (v := .pointer (some ⟨B, 1, none⟩)) rfl (by kernel_rfl) (by kernel_rfl) (by kernel_rfl) (fun _ _ _ h => h) (Or.inl ⟨by rfl, fun w' hS => ?_⟩) HS ?_
          · clear hS; go_simp
          refine wpAnyH_take (i := 5) (v := .agg (wtC ⟨tto, z⟩).toArray) rfl (by kernel_rfl) (by kernel_rfl) (by kernel_rfl) (fun _ _ _ h => h) (yieldsIf_load_mid (by rfl) 95 (.tmp 10) rfl H 0 rfl (wtC ⟨tto, z⟩) dsc (fun w h => h) hds hdr (info_wt _)) HS ?_
          change wpAnyH Tryz.prog .any _ _ _ 6 #[true, true, true, true, false, true, false, false, false, false, false] _ wd
          simp only [Act.put, List.setIfInBounds_toArray, List.set_cons_zero, List.set_cons_succ]
          refine wpAnyH_ready (rs := [4, 6]) (by kernel_rfl) (by simp) ?_
          refine AllReadyH.cons rfl (fun K hK => ?_) (AllReadyH.cons rfl (fun K hK => ?_) AllReadyH.nil)
          · go_simp
            refine hK.out _ _ HRd.out (fun _ => ?_)
            clear hK K
            refine wpAnyH_ready (rs := [6]) (by kernel_rfl) (by simp) ?_
            refine AllReadyH.cons rfl (fun K hK => ?_) AllReadyH.nil
            refine step_slicing1 rfl 90 0 1 (.tmp 47) rfl (.agg (wtC ⟨tto, z⟩).toArray) (.slice (some ⟨K2, 0, none⟩) 1 1) ws rfl HSL.out ?_
            refine hK.out _ _ HRs.out (fun _ => ?_)
            clear hK K
            refine wpAnyH_ready (rs := [7]) (by kernel_rfl) (by simp) ?_
            refine AllReadyH.cons rfl (fun K hK => ?_) AllReadyH.nil
            refine step_appW rfl (.tmp 46) (.tmp 48) rfl rfl _ _ (.slice (some ⟨g, 0, none⟩) N cap) w4 rfl rfl HRUN.out ?_
            refine hK.out _ _ HR4.out (fun _ => ?_)
            · skip
              clear hK K
              refine wpAnyH_ready (rs := [8]) (by kernel_rfl) (by simp) ?_
              refine AllReadyH.cons rfl (fun K hK => ?_) AllReadyH.nil
              go_simp
              refine hK.out _ _ HR4.out (fun _ => ?_)
              clear hK K
              refine wpAnyH_ready (rs := [9]) (by kernel_rfl) (by simp) ?_
              refine AllReadyH.cons rfl (fun K hK => ?_) AllReadyH.nil
              go_simp
              refine hK.out _ _ HR4.out (fun _ => ?_)
              clear hK K
              refine wpAnyH_ready (rs := [10]) (by kernel_rfl) (by simp) ?_
              refine AllReadyH.cons rfl (fun K hK => ?_) AllReadyH.nil
              go_simp
              refine hK.out _ _ HR5.out (fun _ => ?_)
              clear hK K
              refine wpAnyH_done (by kernel_rfl) ?_ _
              go_wp2
              go_ret
              exact HP.out
          · refine step_slicing1 rfl 90 0 1 (.tmp 47) rfl (.agg (wtC ⟨tto, z⟩).toArray) (.slice (some ⟨K2, 0, none⟩) 1 1) ws rfl HSL.out ?_
            refine hK.out _ _ HRs.out (fun _ => ?_)
            clear hK K
            refine wpAnyH_ready (rs := [4]) (by kernel_rfl) (by simp) ?_
            refine AllReadyH.cons rfl (fun K hK => ?_) AllReadyH.nil
            go_simp
            refine hK.out _ _ HRs.out (fun _ => ?_)
            clear hK K
            refine wpAnyH_ready (rs := [7]) (by kernel_rfl) (by simp) ?_
            refine AllReadyH.cons rfl (fun K hK => ?_) AllReadyH.nil
            refine step_appW rfl (.tmp 46) (.tmp 48) rfl rfl _ _ (.slice (some ⟨g, 0, none⟩) N cap) w4 rfl rfl HRUN.out ?_
            refine hK.out _ _ HR4.out (fun _ => ?_)
            · skip
              clear hK K
              refine wpAnyH_ready (rs := [8]) (by kernel_rfl) (by simp) ?_
              refine AllReadyH.cons rfl (fun K hK => ?_) AllReadyH.nil
              go_simp
              refine hK.out _ _ HR4.out (fun _ => ?_)
              clear hK K
              refine wpAnyH_ready (rs := [9]) (by kernel_rfl) (by simp) ?_
              refine AllReadyH.cons rfl (fun K hK => ?_) AllReadyH.nil
              go_simp
              refine hK.out _ _ HR4.out (fun _ => ?_)
              clear hK K
              refine wpAnyH_ready (rs := [10]) (by kernel_rfl) (by simp) ?_
              refine AllReadyH.cons rfl (fun K hK => ?_) AllReadyH.nil
              go_simp
              refine hK.out _ _ HR5.out (fun _ => ?_)
              clear hK K
              refine wpAnyH_done (by kernel_rfl) ?_ _
              go_wp2
              go_ret
              exact HP.out
      · have hS := write_dies (z := z) hop hy
        rw [hS.1, hS.2]
        rw [hy] at HY
        clear hS hop hy h hs
        go_enter Tryz.func47, Tryz.ntmps47
        go_wp2_with fail
        refine HO.out.mono ?_
        rintro e w' ⟨rfl, rfl⟩
        go_wp2_with fail
        refine HY.out.mono ?_
        rintro e w1 ⟨rfl, h1, hc1⟩
        have HP := Lib.hid (DPost.turned (base := base) (r := .int .i64 21) h1 (diesD_more d).1 hc1)
        clear h1 hc1
        go_wp2
        go_ret
        exact HP.out
    · have hS := write_len (z := z) hop hn
      have HP := Lib.hid (DPost.turned (base := base) (r := .int .i64 1) h rfl (Ch.refl _ w))
      have t1 : ((n : Int) != 256) = true := by simp; omega
      rw [hS.1, hS.2]
      clear hS hop h hs
      go_enter Tryz.func47, Tryz.ntmps47
      go_wp2_with fail
      refine HO.out.mono ?_
      rintro e w' ⟨rfl, rfl⟩
      go_wp2
      go_ret
      exact HP.out
  · have hS := write_bad (n := n) (z := z) hop
    have HP := Lib.hid (DPost.turned (base := base) (r := .int .i64 (openE d a)) h rfl (Ch.refl _ w))
    have t1 : (openE d a != 0) = true := by simpa using hop
    rw [hS.1, hS.2]
    clear hS hop h hs
    go_enter Tryz.func47, Tryz.ntmps47
    go_wp2_with fail
    refine HO.out.mono ?_
    rintro e w' ⟨rfl, rfl⟩
    go_wp2
    go_ret
    exact HP.out
end Go.Proofs.YtlbdopcchoklhaaGreat
