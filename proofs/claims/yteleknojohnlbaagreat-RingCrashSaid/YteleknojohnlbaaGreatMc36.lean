/-
  ring.Load, walked; pieces, handed over. (Laid by tools/gen_rinq.py.). The pieces of a transaction, handed over (ring.pieces). (*ring.Ring).Append, in plain words, and walked. What a ring appends, and that it is told again: in plain words.
-/
import Derived.Test.YteleknojohnlbaaGreatMc35
import Derived.Test.YteleknojohnlbaaGreatMc16
import Derived.Test.YteleknojohnlbaaGreatMc32
namespace Go.Proofs.YteleknojohnlbaaGreat
open Go.RowKit
set_option linter.unusedVariables false
set_option maxRecDepth 100000
set_option linter.unusedSimpArgs false
theorem LdRow.low {w0 w wr : World} {B W : Nat} {N : Nat → Nat} {Z : Nat → Nat → Nat} (h : LdRow w wr B W N Z) (k : w0.heap.size ≤ w.heap.size) : LdRow w0 wr B W N Z := by
  obtain ⟨s, h1, h2⟩ := h.row
  exact ⟨⟨s, h1, fun c hc => (h2 c hc).low k⟩, Nat.le_trans k h.lo⟩
def ld2 (g : Ge) (d : Dev) : Dev := ldD g 1 (ldD g 0 d g.wal.toNat) g.wal.toNat
def LoadPost (base : Nat) (p : Ph) (g : Ge) (d : Dev) (w : World) (e : Ending) (w' : World) : Prop :=
  ∃ B0 B1, e = .returned (.tuple #[.slice (some ⟨B0, 0, none⟩) g.wal.toNat g.wal.toNat, .slice (some ⟨B1, 0, none⟩) g.wal.toNat g.wal.toNat]) ∧ LdRow w w' B0 g.wal.toNat (ldN g 0 d) (ldZ g 0 d) ∧
    LdRow w w' B1 g.wal.toNat (ldN g 1 (ldD g 0 d g.wal.toNat)) (ldZ g 1 (ldD g 0 d g.wal.toNat)) ∧ DevIs base w' p (ld2 g d) ∧ Ch (Foot p d) w w'
set_option maxHeartbeats 3200000 in
theorem rLoad_any (base : Nat) (p : Ph) (g : Gn) (d : Dev) (w : World) (h : DevIs base w p d) (hg : g.Ok) (ho : d.ops ≤ 900000) (hW : d.W.length ≤ 900000) :
    Calls Tryz.prog 29 #[.pointer (some ⟨p.B, 0, none⟩), .agg (geC g.ge)] w (LoadPost base p g.ge d w) := by
  obtain ⟨w1, H, hR⟩ := geR w g.ge
  obtain ⟨x0, x1, x2, x3⟩ := hR.x
  have HM := Lib.hid (gmay_any g.ge w1)
  rw [ok_may hg] at HM
  have HR := Lib.hid hR
  have HG := Lib.hid hg
  have HDV := Lib.hid h
  have HFW := Lib.hid (fun i (hi : Foot p d i) => (h.foot hi).2)
  have HOP := Lib.hid (And.intro ho hW)
  clear hR hg h ho hW
  go_enter Tryz.func29, Tryz.ntmps29
  go_wp2_with (first
    | ((with_reducible refine wpList_isOp (.box 23 (.tmp 1)) rfl ?_); refine wpList_boxing _ w1 rfl 23 (.tmp 1) rfl (geC g.ge) H rfl (by exact HR.out.sz) (by exact HR.out.al) ?_)
    | fail)
  refine HM.out.mono ?_
  rintro e w2 ⟨rfl, hc⟩
  obtain ⟨wd, hwd⟩ : ∃ wd, wd = w2.drew := ⟨_, rfl⟩
  have hcd : Ch (fun _ => False) w2 wd := by rw [hwd]; exact (Ch.refl _ w2).drew
  have HCD := Lib.hid ((HR.out.ch.trans hc).trans hcd)
  have HX := Lib.hid (HR.out.x.gr (hc.trans hcd))
  have HWD := Lib.hid hwd
  have HHW := Lib.hid (show w.heap.size ≤ H by rw [← HR.out.sz]; exact Nat.le_refl _)
  have HFT := Lib.hid (fun i (hi : Foot p d i) => HFW.out i hi)
  have HL0 := Lib.hid (rload_any base p g 0 d wd (HDV.out.gr HCD.out) HG.out ⟨by omega, by omega⟩ (by have := HOP.out; omega) (by have := HOP.out; omega))
  clear hc hwd hcd x0 x1 x2 x3 HM
  go_upto_region 3 with fail
  refine wp_region_held (S := (fun w' => GeX w' H g.ge)) (by kernel_rfl) ?_
  change wpAnyH _ _ _ _ _ _ _ _ (World.drew _)
  rw [← HWD.out]
  refine wpAnyH_take (i := 0) (oi := ⟨some 9, .move (.tmp 0), _, _, _, none⟩) (v := .pointer (some ⟨p.B, 0, none⟩)) rfl (by kernel_rfl) (by kernel_rfl) (by kernel_rfl) (fun _ _ _ h => h) (Or.inl ⟨by rfl, fun w' hS => ?_⟩) HX.out ?_
  · clear hS; go_simp
  simp only [Act.put, List.setIfInBounds_toArray, List.set_cons_zero, List.set_cons_succ]
  refine wpAnyH_take (i := 1) (oi := ⟨some 10, .load 23 (.tmp 3), _, _, _, none⟩) (v := .agg (geC g.ge)) rfl (by kernel_rfl) (by kernel_rfl) (by kernel_rfl) (fun _ _ _ h => h) (Or.inl ⟨by rfl, fun w' hS => ?_⟩) HX.out ?_
  · obtain ⟨s0, s1, s2, s3⟩ := hS; go_simp; rfl
  simp only [Act.put, List.setIfInBounds_toArray, List.set_cons_zero, List.set_cons_succ]
  refine wpAnyH_take (i := 3) (oi := ⟨some 12, .move (.tmp 0), _, _, _, none⟩) (v := .pointer (some ⟨p.B, 0, none⟩)) rfl (by kernel_rfl) (by kernel_rfl) (by kernel_rfl) (fun _ _ _ h => h) (Or.inl ⟨by rfl, fun w' hS => ?_⟩) HX.out ?_
  · clear hS; go_simp
  simp only [Act.put, List.setIfInBounds_toArray, List.set_cons_zero, List.set_cons_succ]
  refine wpAnyH_take (i := 4) (oi := ⟨some 13, .load 23 (.tmp 3), _, _, _, none⟩) (v := .agg (geC g.ge)) rfl (by kernel_rfl) (by kernel_rfl) (by kernel_rfl) (fun _ _ _ h => h) (Or.inl ⟨by rfl, fun w' hS => ?_⟩) HX.out ?_
  · obtain ⟨s0, s1, s2, s3⟩ := hS; go_simp; rfl
  simp only [Act.put, List.setIfInBounds_toArray, List.set_cons_zero, List.set_cons_succ]
  refine wpAnyH_ready (rs := [2]) (by kernel_rfl) (by simp) ?_
  refine AllReadyH.cons rfl (fun K hK => ?_) AllReadyH.nil
  go_simp
  refine HL0.out.mono ?_
  rintro e w3 ⟨B0, rfl, q1, q2, q3⟩
  have HX3 : Hid (GeX w3 H g.ge) := Lib.hid (HX.out.off q3 (fun q => by have := HFT.out H q; have := HHW.out; omega))
  have HL1 := Lib.hid (rload_any base p g 1 (ldD g.ge 0 d g.ge.wal.toNat) w3 q2 HG.out ⟨by omega, by omega⟩ (by have h1 := ldD_ops g.ge 0 d g.ge.wal.toNat; have h2 := HOP.out; have h3 := HG.out.w2; have h4 : g.ge.wal.toNat = g.W := Int.toNat_natCast _; omega) (by rw [ldD_W]; have := HOP.out; omega))
  have Q1 := Lib.hid q1
  have Q3 := Lib.hid q3
  clear q1 q2 q3
  dsimp only
  refine hK.out _ _ HX3.out (fun _ => ?_)
  clear hK K
  try simp only [Act.put, List.setIfInBounds_toArray, List.set_cons_zero, List.set_cons_succ]
  refine wpAnyH_ready (rs := [5]) (by kernel_rfl) (by simp) ?_
  refine AllReadyH.cons rfl (fun K hK => ?_) AllReadyH.nil
  go_simp
  refine HL1.out.mono ?_
  rintro e w4 ⟨B1, rfl, q1, q2, q3⟩
  have hf : ∀ i, Foot p (ldD g.ge 0 d g.ge.wal.toNat) i → Foot p d i := fun i hi => (foot_n (ldD_n g.ge 0 d _)).1 hi
  have HX4 : Hid (GeX w4 H g.ge) := Lib.hid (HX3.out.off q3 (fun q => by have := HFT.out H (hf H q); have := HHW.out; omega))
  have HFIN : Hid (LoadPost base p g.ge d w (.returned (.tuple #[.slice (some ⟨B0, 0, none⟩) g.ge.wal.toNat g.ge.wal.toNat, .slice (some ⟨B1, 0, none⟩) g.ge.wal.toNat g.ge.wal.toNat])) w4) := Lib.hid
    ⟨B0, B1, rfl, (Q1.out.low HCD.out.size).ch q3 (fun i hi => HFW.out i (hf i hi)), q1.low (Nat.le_trans HCD.out.size Q3.out.size), q2, ((HCD.out.mono fun _ _ f => f.elim).trans Q3.out).trans (q3.mono fun i _ hi => hf i hi)⟩
  clear q1 q2 q3 hf
  dsimp only
  refine hK.out _ _ HX4.out (fun _ => ?_)
  clear hK K
  try simp only [Act.put, List.setIfInBounds_toArray, List.set_cons_zero, List.set_cons_succ]
  refine wpAnyH_take (i := 6) (oi := ⟨some 4, .assign (.tmp 11), _, _, _, none⟩) (v := .slice (some ⟨B0, 0, none⟩) g.ge.wal.toNat g.ge.wal.toNat) rfl (by kernel_rfl) (by kernel_rfl) (by kernel_rfl) (fun _ _ _ h => h) (Or.inl ⟨by rfl, fun w' hS => ?_⟩) HX4.out ?_
  · clear hS; go_simp
  try simp only [Act.put, List.setIfInBounds_toArray, List.set_cons_zero, List.set_cons_succ]
  refine wpAnyH_take (i := 7) (oi := ⟨some 5, .assign (.tmp 14), _, _, _, none⟩) (v := .slice (some ⟨B1, 0, none⟩) g.ge.wal.toNat g.ge.wal.toNat) rfl (by kernel_rfl) (by kernel_rfl) (by kernel_rfl) (fun _ _ _ h => h) (Or.inl ⟨by rfl, fun w' hS => ?_⟩) HX4.out ?_
  · clear hS; go_simp
  try simp only [Act.put, List.setIfInBounds_toArray, List.set_cons_zero, List.set_cons_succ]
  refine wpAnyH_done (by kernel_rfl) ?_ _
  go_wp2
  go_ret2
  exact HFIN.out
end Go.Proofs.YteleknojohnlbaaGreat
namespace Go.Proofs.YteleknojohnlbaaGreat
open Go.RowKit
set_option linter.unusedVariables false
set_option maxRecDepth 100000
set_option linter.unusedSimpArgs false
attribute [local go_sem] Oper.semAt_some wide_fn wide_depth
def cntN (n : Nat) : Nat := (cntR n).toNat
theorem cntN_eq (n : Nat) : (cntN n : Int) = cntR n := by unfold cntN cntR; split <;> omega
theorem cntN_pos (n : Nat) : 1 ≤ cntN n := by have := cntN_eq n; unfold cntR at this; split at this <;> omega
theorem cntN_lt {n k : Nat} (h : k < cntN n) : 200 * k ≤ n := by have := cntN_eq n; unfold cntR at this; split at this <;> omega
theorem cntN_all {n : Nat} : n ≤ 200 * cntN n := by have := cntN_eq n; unfold cntR at this; split at this <;> omega
def pcV (A : Option Addr) (C lo len : Nat) : Value := .slice (if C = lo then A else A.map (fun a => a.add lo)) len (C - lo)
theorem pcV_row {w : World} {A : Option Addr} {n C lo len : Nat} {z : Nat → Nat} (h : RowV w (.slice A n C) n z) (hl : lo + len ≤ n) : RowV w (pcV A C lo len) len (fun j => z (lo + j)) := by
  obtain ⟨A1, c1, e1, ⟨g0, g1⟩, g2⟩ := h
  injection e1 with e1 _ e2
  subst e1
  subst e2
  refine ⟨_, _, rfl, ⟨by omega, by omega⟩, fun h0 => ?_⟩
  obtain ⟨b, o, rfl, g3⟩ := g2 (by omega)
  refine ⟨b, o + lo, ?_, fun j hj => ?_⟩
  · rw [if_neg (by omega)]
    simp [Addr.add]
  · have := g3 (lo + j) (by omega)
    rw [Nat.add_assoc]
    exact this
theorem pcV_off {S : Nat → Prop} {w : World} {z : Nat → Nat} {A : Option Addr} {n C lo len : Nat} (h : Off S (.slice A n C)) (hr : RowV w (.slice A n C) n z) (hl : lo + len ≤ n) : Off S (pcV A C lo len) := fun b o k c e => by
  obtain ⟨A1, c1, e1, ⟨g0, g1⟩, g2⟩ := hr
  injection e1 with e1 _ e2
  subst e1
  subst e2
  unfold pcV at e
  injection e with e1 e2 e3
  subst e2
  rw [if_neg (by omega)] at e1
  obtain ⟨b', o', rfl, _⟩ := g2 (by omega)
  obtain ⟨m, rfl⟩ : ∃ m, n = m + 1 := ⟨n - 1, by omega⟩
  have e2 : b' = b := by
    by_cases q : lo = 0
    · simp [Addr.add, q] at e1; exact e1.1
    · simp [Addr.add, q] at e1; exact e1.1
  rw [← e2]
  exact h _ _ _ _ rfl
def lenP (n i : Nat) : Nat := min (i * 200 + 200) n - i * 200
abbrev Ix (n : Nat) := Fin (cntN n)
def encP (A : Option Addr) (n C : Nat) (x : Ix n) : Array Value := #[.int .i64 (x.1 : Int), pcV A C (x.1 * 200) (lenP n x.1)]
def KpP (Bt : Nat) (W W' : World) : Prop := ∀ c, W.heap[Bt]? = some (.cells c /-t-/24 (0, 0)) → W'.heap[Bt]? = some (.cells c /-t-/24 (0, 0))
theorem KpP.trans {Bt : Nat} {A B C : World} (h : KpP Bt A B) (k : KpP Bt B C) : KpP Bt A C := fun c hc => k c (h c hc)
theorem KpP.put {Bt l : Nat} {W : World} {o o' : Obj} (ho : W.heap[l]? = some o) (hc : o.isCells = false) : KpP Bt W (W.putObj l o') := fun c h => (World.putObj_heap_other (fun e => by
  rw [e] at h; rw [h] at ho; cases ho; cases hc)).trans h
theorem enc_a {A : Option Addr} {n C : Nat} {x : Ix n} (h1 : n < x.1 * 200 + 200) (h2 : C = x.1 * 200) (h3 : n ≤ C) : encP A n C x = #[.int .i64 (x.1 : Int), .slice A 0 0] := by
  unfold encP pcV lenP
  rw [if_pos h2, Nat.min_eq_right (by omega), h2, Nat.sub_self, Nat.sub_eq_zero_of_le (by omega)]
theorem enc_b {A : Option Addr} {n C : Nat} {x : Ix n} (h1 : n < x.1 * 200 + 200) (h2 : ¬ C = x.1 * 200) : encP A n C x = #[.int .i64 (x.1 : Int), .slice (A.map (fun a => a.add (x.1 * 200))) (n - x.1 * 200) (C - x.1 * 200)] := by
  unfold encP pcV lenP
  rw [if_neg h2, Nat.min_eq_right (by omega)]
theorem enc_c {A : Option Addr} {n C : Nat} {x : Ix n} (h1 : x.1 * 200 + 200 ≤ n) (h2 : ¬ C = x.1 * 200) : encP A n C x = #[.int .i64 (x.1 : Int), .slice (A.map (fun a => a.add (x.1 * 200))) 200 (C - x.1 * 200)] := by
  unfold encP pcV lenP
  rw [if_neg h2, Nat.min_eq_left (by omega), Nat.add_sub_cancel_left]
theorem rpieces_any (A : Option Addr) (n C : Nat) (w : World) : Calls Tryz.prog 67 #[.slice A n C] w fun e w' => ∃ Bt, e = .returned (.func (.func 109) #[] #[.pointer (some ⟨Bt, 0, none⟩)]) ∧ w'.heap[Bt]? = some (.cells #[.slice A n C] /-t-/24 (0, 0)) ∧ w.heap.size ≤ Bt ∧ Ch (fun _ => False) w w' := by
  have HB : Hid ((w.alloc (.cells #[.slice A n C] /-t-/24)).heap[w.heap.size]? = some (.cells #[.slice A n C] /-t-/24 (0, 0)) ∧ Ch (fun _ => False) w (w.alloc (.cells #[.slice A n C] /-t-/24))) := ⟨heap_alloc_new _ _, (Ch.refl _ w).alloc _ _⟩
  go_enter Tryz.func67, Tryz.ntmps67
  go_wp2
  go_ret
  exact ⟨w.heap.size, rfl, HB.out.1, Nat.le_refl _, HB.out.2⟩
set_option maxHeartbeats 3200000 in
theorem pieces1_in (m : Nat) (hm : 1 ≤ m) (l Bt : Nat) (A : Option Addr) (n C : Nat) (hn : n ≤ 12800) (hC : n ≤ C) (J Jx : List (Ix n) → World → Prop) (W : World) (hJ : AbidesFrom W.heap.size J)
    (hY : ∀ pre x W, J pre W → pre.length < cntN n → YieldAt Fence.wide (m - 1) Tryz.prog l (encP A n C x) W fun e W' =>
      (e = .returned (.bool true) ∧ J (pre ++ [x]) W' ∧ KpP Bt W W') ∨ (e = .returned (.bool false) ∧ Jx (pre ++ [x]) W'))
    (hB : W.heap[Bt]? = some (.cells #[.slice A n C] /-t-/24 (0, 0))) (h0 : J [] W) :
    CallsIn Fence.wide m Tryz.prog 109 #[.func (.yield l) #[] #[], .pointer (some ⟨Bt, 0, none⟩)] W fun e W' => (∃ v, e = .returned v) ∧
      ((∃ ys : List (Ix n), ys.map Fin.val = List.range (cntN n) ∧ J ys W') ∨ (∃ pre : List (Ix n), (∃ k, k ≤ cntN n ∧ pre.map Fin.val = List.range k) ∧ Jx pre W')) := by
  have b0 : W.cell? ⟨Bt, 0, none⟩ = some (.slice A n C) := blk_cell hB
  have HC := Lib.hid (rcount_any A n C W (by omega))
  have HB := Lib.hid hB
  have HCC := Lib.hid (And.intro hC True.intro)
  have HN := Lib.hid hn
  rw [← cntN_eq] at HC
  clear hB hC hn
  refine callsIn_of_wp Tryz.func109 rfl trivial ?_ rfl
  simp only [Tryz.ntmps109, List.size_toArray, List.length_cons, List.length_nil, Nat.reduceAdd, Nat.reduceSub, Array.replicate_succ, Array.replicate_zero, List.push_toArray, List.append_toArray, List.nil_append, List.cons_append]
  gi_upto_region 0 with fail
  refine wpIn_wide.2 ?_
  go_wp2_with fail
  refine HC.out.mono ?_
  rintro e w1 ⟨rfl, hc1⟩
  have HB1 := Lib.hid ((hc1.block Bt (blk_lt HB.out) (fun f => f)).trans HB.out)
  have HJ1 := Lib.hid (hJ _ _ _ none h0 (grown_ch hc1) (fun _ e => by cases e))
  clear HC hc1 b0 HB h0 hJ
  go_wp2
  gi_wp2
  gi_loopw [3, 4, 7] (fun _ _ i wr => ∃ (k : Nat) (pre : List (Ix n)), i = .int .i64 (k : Int) ∧ k ≤ cntN n ∧ pre.map Fin.val = List.range k ∧ Hid (J pre wr) ∧ Hid (wr.heap[Bt]? = some (.cells #[.slice A n C] /-t-/24 (0, 0)))) (fun _ _ i _ => cntN n - (intOf i).toNat)
  case atStart => exact ⟨0, [], rfl, Nat.zero_le _, rfl, HJ1, HB1⟩
  case round =>
    clear HJ1 HB1
    obtain ⟨k, pre, rfl, hk, hpre, HJ, HB⟩ := hrel
    by_cases hlt : k < cntN n
    · have i1 : (0 : Int) ≤ (k : Int) := Int.natCast_nonneg _
      have i2 : (k : Int) < (cntN n : Int) := by omega
      have b0 : wr.cell? ⟨Bt, 0, none⟩ = some (.slice A n C) := blk_cell HB.out
      have hlo := cntN_lt hlt
      have hn := HN.out
      have hC := HCC.out.1
      have hlen : pre.length < cntN n := by have := congrArg List.length hpre; simp at this; omega
      obtain ⟨fn, tmps, assign, body, hy, hR⟩ := hY pre ⟨k, hlt⟩ wr HJ.out hlen
      have HPRE : Hid ((pre ++ [(⟨k, hlt⟩ : Ix n)]).map Fin.val = List.range (k + 1)) := Lib.hid (by rw [List.map_append, hpre, List.range_succ]; rfl)
      clear hlen
      by_cases hmin : n < k * 200 + 200
      · have hmi : (n : Int) < (k : Int) * 200 + 200 := by omega
        by_cases hck : C = k * 200
        · subst hck
          rw [enc_a (A := A) (n := n) (C := k * 200) (x := ⟨k, hlt⟩) hmin rfl hC] at hy
          dsimp only at hy
          clear hpre
          gi_wp2
          refine hR.mono ?_
          rintro e W3 (⟨rfl, hJ3, hK3⟩ | ⟨rfl, hJx3⟩)
          · have HJ3 := Lib.hid hJ3
            have HB3 := Lib.hid (hK3 _ HB.out)
            clear hJ3 hK3
            gi_wp2
            go_roundw
            case rel => exact ⟨k + 1, _, by simp, by omega, HPRE.out, HJ3, HB3⟩
            case measure => simp [intOf]; omega
          · gi_wp2
            refine bodyPost_ret (results_none rfl _ _ _) rfl ?_
            exact ⟨⟨_, rfl⟩, .inr ⟨_, ⟨k + 1, by omega, HPRE.out⟩, hJx3⟩⟩
        · rw [enc_b (A := A) (n := n) (C := C) (x := ⟨k, hlt⟩) hmin hck] at hy
          dsimp only at hy
          clear hpre
          gi_wp2
          refine hR.mono ?_
          rintro e W3 (⟨rfl, hJ3, hK3⟩ | ⟨rfl, hJx3⟩)
          · have HJ3 := Lib.hid hJ3
            have HB3 := Lib.hid (hK3 _ HB.out)
            clear hJ3 hK3
            gi_wp2
            go_roundw
            case rel => exact ⟨k + 1, _, by simp, by omega, HPRE.out, HJ3, HB3⟩
            case measure => simp [intOf]; omega
          · gi_wp2
            refine bodyPost_ret (results_none rfl _ _ _) rfl ?_
            exact ⟨⟨_, rfl⟩, .inr ⟨_, ⟨k + 1, by omega, HPRE.out⟩, hJx3⟩⟩
      · have hmi : (k : Int) * 200 + 200 ≤ (n : Int) := by omega
        have hck : ¬ C = k * 200 := by omega
        have hmj : 0 ≤ (k : Int) * 200 + 200 ∧ (k : Int) * 200 + 200 ≤ (C : Int) := by omega
        rw [enc_c (A := A) (n := n) (C := C) (x := ⟨k, hlt⟩) (Nat.le_of_not_lt hmin) hck] at hy
        dsimp only at hy
        clear hpre
        gi_wp2
        refine hR.mono ?_
        rintro e W3 (⟨rfl, hJ3, hK3⟩ | ⟨rfl, hJx3⟩)
        · have HJ3 := Lib.hid hJ3
          have HB3 := Lib.hid (hK3 _ HB.out)
          clear hJ3 hK3
          gi_wp2
          go_roundw
          case rel => exact ⟨k + 1, _, by simp, by omega, HPRE.out, HJ3, HB3⟩
          case measure => simp [intOf]; omega
        · gi_wp2
          refine bodyPost_ret (results_none rfl _ _ _) rfl ?_
          exact ⟨⟨_, rfl⟩, .inr ⟨_, ⟨k + 1, by omega, HPRE.out⟩, hJx3⟩⟩
    · obtain rfl : k = cntN n := by omega
      clear hlt hk
      gi_wp2
      go_end0
      exact ⟨⟨_, rfl⟩, .inl ⟨_, hpre, HJ.out⟩⟩
end Go.Proofs.YteleknojohnlbaaGreat
namespace Go.Proofs.YteleknojohnlbaaGreat
open Go.RowKit
set_option linter.unusedVariables false
set_option maxRecDepth 100000
set_option linter.unusedSimpArgs false
structure ApS where
  d : Dev
  x : Rg
  e : Int
def pcB (B : List Nat) (i : Nat) : List Nat := (B.drop (i * 200)).take 200
def apQ (o : Int) (B : List Nat) (x : Rg) (i : Nat) : Pn := pcOf x (i : Int) o (pcB B i)
def apStep (o : Int) (B : List Nat) (s : ApS) (i : Nat) : ApS := if s.e = 0 then ⟨wrD s.x (apQ o B s.x i) s.d, nxR s.x (apQ o B s.x i) (wrE s.x (apQ o B s.x i) s.d), wrE s.x (apQ o B s.x i) s.d⟩ else s
def apL (o : Int) (B : List Nat) (s : ApS) (l : List Nat) : ApS := l.foldl (apStep o B) s
theorem apL_snoc (o : Int) (B : List Nat) (s : ApS) (l : List Nat) (i : Nat) : apL o B s (l ++ [i]) = apStep o B (apL o B s l) i := by unfold apL; rw [List.foldl_append]; rfl
theorem ap_stop {o : Int} {B : List Nat} {s : ApS} (h : s.e ≠ 0) : ∀ l, apL o B s l = s
  | [] => rfl
  | i :: l => by
    show apL o B (apStep o B s i) l = s
    rw [show apStep o B s i = s from if_neg h]
    exact ap_stop h l
def apE0 (x : Rg) (n : Nat) : Int := if 64 < cntR n then 2 else if x.g.wal < x.next + cntR n - x.start ∨ 4294967295 < x.next + cntR n then 4 else 0
def appS (x : Rg) (B : List Nat) (d : Dev) : ApS := if apE0 x B.length = 0 then apL (cntR B.length) B ⟨d, x, 0⟩ (List.range (cntN B.length)) else ⟨d, x, apE0 x B.length⟩
structure RgOk (x : Rg) : Prop where
  may : mayG x.g = true
  vol : 0 ≤ x.vol ∧ x.vol ≤ 4294967295
  ep : 0 ≤ x.ep ∧ x.ep ≤ 4294967295
  fr : 0 ≤ x.fr ∧ x.fr ≤ x.next
  ch : 0 ≤ x.chain ∧ x.chain ≤ 4294967295
  nx : x.next ≤ 4294967295
  st : 0 ≤ x.start ∧ x.start ≤ x.next
structure StOk (x : Rg) (j : Nat) (y : Rg) : Prop where
  d : y.d = x.d
  vol : y.vol = x.vol
  g : y.g = x.g
  ep : y.ep = x.ep
  fr : y.fr = x.fr
  start : y.start = x.start
  next : y.next = x.next + (j : Int)
  ch : 0 ≤ y.chain ∧ y.chain ≤ 4294967295
theorem StOk.ok {x y : Rg} {j : Nat} (h : StOk x j y) (hx : RgOk x) (hj : x.next + (j : Int) ≤ 4294967295) : RgOk y :=
  ⟨by rw [h.g]; exact hx.may, by rw [h.vol]; exact hx.vol, by rw [h.ep]; exact hx.ep, by rw [h.fr, h.next]; have := hx.fr; omega, h.ch, by rw [h.next]; exact hj, by rw [h.start, h.next]; have := hx.st; omega⟩
theorem pcB_len (B : List Nat) (i : Nat) : (pcB B i).length = lenP B.length i := by
  unfold pcB lenP
  rw [List.length_take, List.length_drop]
  omega
theorem pcB_b {B : List Nat} (h : ∀ c ∈ B, c < 256) (i : Nat) : ∀ c ∈ pcB B i, c < 256 := fun c hc => h c (List.mem_of_mem_drop (List.mem_of_mem_take hc))
theorem ap_rok {x : Rg} {o : Int} {i : Nat} {B : List Nat} (hx : RgOk x) (ho : 1 ≤ o ∧ o ≤ 64) (hi : (i : Int) < o) : rokB x.vol x.g 0 (apQ o B x i) = true := by
  refine rokB_iff.2 ⟨mayP_iff.2 ⟨⟨?_, hx.nx⟩, hx.ep, ⟨hx.fr.1, ?_⟩, hx.ch, hx.fr.2, ho, ⟨Int.natCast_nonneg i, ?_⟩, ?_⟩, hx.may, by decide, hx.vol⟩
  · show 0 ≤ x.next; have := hx.fr; omega
  · show x.fr ≤ 4294967295; have := hx.fr; have := hx.nx; omega
  · show (i : Int) ≤ o - 1; omega
  · show (pcB B i).length ≤ 200
    unfold pcB; rw [List.length_take]; omega
theorem sumR_word {vol : Int} {g : Ge} {q : Pn} (h : ∀ c ∈ q.B, c < 256) : 0 ≤ sumR vol g q ∧ sumR vol g q ≤ 4294967295 := by
  have := Crc.sumZ_lt (n := 256) (z := sectR vol g 0 q) (fun c hc => sectR_b h 256 c hc)
  unfold sumR
  omega
theorem snocI {α : Type} {P : List α → Prop} (h0 : P []) (h1 : ∀ L x, P L → P (L ++ [x])) : ∀ L, P L := fun L => by
  have h : ∀ R : List α, P R.reverse := fun R => by
    induction R with
    | nil => exact h0
    | cons x r ih => rw [List.reverse_cons]; exact h1 _ _ ih
  have := h L.reverse
  rwa [List.reverse_reverse] at this
theorem ap_prev {o : Int} {B : List Nat} {s : ApS} {i : Nat} (h : (apStep o B s i).e = 0) : s.e = 0 := by
  by_cases q : s.e = 0
  · exact q
  · have e : apStep o B s i = s := if_neg q
    rw [e] at h
    exact h
theorem ap_ok {o : Int} {B : List Nat} {d : Dev} {x : Rg} (hB : ∀ c ∈ B, c < 256) (hx : RgOk x) : ∀ l, (apL o B ⟨d, x, 0⟩ l).e = 0 → StOk x l.length (apL o B ⟨d, x, 0⟩ l).x := by
  refine snocI (fun _ => ⟨rfl, rfl, rfl, rfl, rfl, rfl, by show x.next = x.next + ((0 : Nat) : Int); omega, hx.ch⟩) ?_
  intro l i ih h
  rw [apL_snoc] at h ⊢
  have h0 := ap_prev h
  obtain ⟨a1, a2, a3, a4, a5, a6, a7, a8⟩ := ih h0
  have e : apStep o B (apL o B ⟨d, x, 0⟩ l) i = ⟨wrD (apL o B ⟨d, x, 0⟩ l).x (apQ o B (apL o B ⟨d, x, 0⟩ l).x i) (apL o B ⟨d, x, 0⟩ l).d, nxR (apL o B ⟨d, x, 0⟩ l).x (apQ o B (apL o B ⟨d, x, 0⟩ l).x i) (wrE (apL o B ⟨d, x, 0⟩ l).x (apQ o B (apL o B ⟨d, x, 0⟩ l).x i) (apL o B ⟨d, x, 0⟩ l).d), wrE (apL o B ⟨d, x, 0⟩ l).x (apQ o B (apL o B ⟨d, x, 0⟩ l).x i) (apL o B ⟨d, x, 0⟩ l).d⟩ := if_pos h0
  rw [e] at h ⊢
  have h1 : wrE (apL o B ⟨d, x, 0⟩ l).x (apQ o B (apL o B ⟨d, x, 0⟩ l).x i) (apL o B ⟨d, x, 0⟩ l).d = 0 := h
  unfold nxR
  rw [if_pos h1]
  refine ⟨a1, a2, a3, a4, a5, a6, ?_, sumR_word (pcB_b hB i)⟩
  show (apL o B ⟨d, x, 0⟩ l).x.next + 1 = _
  rw [a7, List.length_append]
  simp only [List.length_cons, List.length_nil]
  omega
theorem ap_lim {o : Int} {B : List Nat} {s : ApS} {t : Nat} (hl : Lim s.d t) (hm : LimM s.d t) : ∀ l, Lim (apL o B s l).d (t + 26 * l.length) ∧ LimM (apL o B s l).d (t + 26 * l.length) := by
  refine snocI ⟨hl, hm⟩ ?_
  rintro l i ⟨h1, h2⟩
  rw [apL_snoc, List.length_append]
  simp only [List.length_cons, List.length_nil]
  unfold apStep
  split
  · have := allTo_lim (f := putR (apL o B s l).x (apQ o B (apL o B s l).x i)) h1 h2 2
    exact ⟨this.1.mono (by omega), this.2.mono (by omega)⟩
  · exact ⟨h1.mono (by omega), h2.mono (by omega)⟩
end Go.Proofs.YteleknojohnlbaaGreat
namespace Go.Proofs.YteleknojohnlbaaGreat
open Go.RowKit
set_option linter.unusedVariables false
set_option maxRecDepth 100000
def ringTo (o : Int) (B : List Nat) (x : Rg) : Nat → Rg
  | 0 => x
  | i + 1 => nxR (ringTo o B x i) (apQ o B (ringTo o B x i) i) 0
def txP (o : Int) (B : List Nat) (x : Rg) (k : Nat) : List Pn := (List.range k).map fun i => apQ o B (ringTo o B x i) i
theorem nx0 (x : Rg) (q : Pn) : nxR x q 0 = { x with next := x.next + 1, chain := sumR x.vol x.g q } := if_pos rfl
structure RingTo (o : Int) (B : List Nat) (x : Rg) (i : Nat) : Prop where
  d : (ringTo o B x i).d = x.d
  vol : (ringTo o B x i).vol = x.vol
  g : (ringTo o B x i).g = x.g
  ep : (ringTo o B x i).ep = x.ep
  fr : (ringTo o B x i).fr = x.fr
  start : (ringTo o B x i).start = x.start
  next : (ringTo o B x i).next = x.next + (i : Int)
theorem ring_to (o : Int) (B : List Nat) (x : Rg) : ∀ i, RingTo o B x i
  | 0 => ⟨rfl, rfl, rfl, rfl, rfl, rfl, by show x.next = x.next + ((0 : Nat) : Int); omega⟩
  | i + 1 => by
    obtain ⟨a1, a2, a3, a4, a5, a6, a7⟩ := ring_to o B x i
    have e : ringTo o B x (i + 1) = _ := nx0 _ _
    refine ⟨by rw [e]; exact a1, by rw [e]; exact a2, by rw [e]; exact a3, by rw [e]; exact a4, by rw [e]; exact a5, by rw [e]; exact a6, ?_⟩
    rw [e]
    show (ringTo o B x i).next + 1 = _
    rw [a7]; omega
theorem txP_len (o : Int) (B : List Nat) (x : Rg) (k : Nat) : (txP o B x k).length = k := by unfold txP; simp
theorem txP_snoc (o : Int) (B : List Nat) (x : Rg) (k : Nat) : txP o B x (k + 1) = txP o B x k ++ [apQ o B (ringTo o B x k) k] := by unfold txP; rw [List.range_succ, List.map_append]; rfl
theorem txP_at {o : Int} {B : List Nat} {x : Rg} {k i : Nat} {q : Pn} (h : (txP o B x k)[i]? = some q) : i < k ∧ q = apQ o B (ringTo o B x i) i := by
  have hi : i < k := by have := (List.getElem?_eq_some_iff.1 h).1; rwa [txP_len] at this
  refine ⟨hi, ?_⟩
  unfold txP at h
  rw [List.getElem?_map, List.getElem?_range hi] at h
  injection h with h
  exact h.symm
theorem txP_good {B : List Nat} {x : Rg} {k : Nat} (hk : 0 < k) : GoodTx (txP (k : Int) B x k) := by
  refine ⟨by rw [txP_len]; exact hk, fun i q h => ?_⟩
  obtain ⟨_, rfl⟩ := txP_at h
  rw [txP_len]
  exact ⟨rfl, rfl⟩
theorem joinP_two (L M : List Pn) : joinP (L ++ M) = joinP L ++ joinP M := by unfold joinP; rw [List.flatMap_append]
theorem txP_join (o : Int) (B : List Nat) (x : Rg) : ∀ k, joinP (txP o B x k) = B.take (k * 200)
  | 0 => by simp [txP, joinP]
  | k + 1 => by
    rw [txP_snoc, joinP_two, txP_join o B x k, Nat.add_mul, List.take_add]
    congr 1
    unfold joinP
    rw [List.flatMap_cons, List.flatMap_nil, List.append_nil]
    rfl
theorem txP_all (o : Int) (B : List Nat) (x : Rg) : joinP (txP o B x (cntN B.length)) = B := by
  rw [txP_join]
  exact List.take_of_length_le (by have := cntN_all (n := B.length); omega)
theorem txP_endA {o : Int} {B : List Nat} {x : Rg} {k : Nat} {a : Pn} : endA a (txP o B x (k + 1)) = apQ o B (ringTo o B x k) k := by
  rw [txP_snoc, endA_app]
  rfl
def RgAft (a : Pn) (s : Int) (x : Rg) : Prop := x.chain = s ∧ (a.ofn = 0 ∨ (x.ep = a.ep ∧ x.fr = a.fr) ∨ (a.ep < x.ep ∧ x.fr = x.next))
theorem aft_fits {a : Pn} {s : Int} {x : Rg} (h : RgAft a s x) (o : Int) (B : List Nat) (i : Nat) : fitsP a s (apQ o B x i) = true := by
  obtain ⟨h1, h2⟩ := h
  unfold fitsP
  rw [if_pos (show (apQ o B x i).ch = s from h1)]
  unfold goesOn
  by_cases q : a.ofn = 0
  · rw [if_pos q]
  · rw [if_neg q]
    show (if x.ep = a.ep then decide (x.fr = a.fr) else (decide (a.ep < x.ep) && decide (x.fr = x.next))) = true
    rcases h2 with e | ⟨e, e2⟩ | ⟨e, e2⟩
    · exact absurd e q
    · rw [if_pos e]; exact decide_eq_true e2
    · rw [if_neg (by omega), decide_eq_true e, decide_eq_true e2]; rfl
theorem aft_next (o : Int) (B : List Nat) (x : Rg) (i : Nat) : RgAft (apQ o B x i) (sumR x.vol x.g (apQ o B x i)) (nxR x (apQ o B x i) 0) := by
  rw [nx0]
  exact ⟨rfl, Or.inr (Or.inl ⟨rfl, rfl⟩)⟩
def FitsL (sm : Pn → Int) : Pn → Int → List Pn → Prop
  | _, _, [] => True
  | a, s, p :: P => fitsP a s p = true ∧ FitsL sm p (sm p) P
theorem fits_app {sm : Pn → Int} : ∀ {P Q : List Pn} {a : Pn} {s : Int}, FitsL sm a s P → FitsL sm (endA a P) (endS sm s P) Q → FitsL sm a s (P ++ Q)
  | [], Q, a, s, _, h => h
  | p :: P, Q, a, s, h, h2 => ⟨h.1, fits_app h.2 h2⟩
def Holds (C : Nat → Nat → Ct) (sl : Nat) (q : Pn) : Prop := (C 0 sl = .pc q ∧ (C 1 sl = .pc q ∨ C 1 sl = .bad)) ∨ (C 0 sl = .bad ∧ C 1 sl = .pc q)
theorem atS_own {q : Pn} {k : Nat} (h : q.seq = (k : Int)) : atS (some q) (k : Int) = some q := if_pos h
theorem holds_find {W : Nat} {C : Nat → Nat → Ct} {k : Nat} {q a : Pn} {s : Int} (h : Holds C (k % W) q) (hs : q.seq = (k : Int)) (hf : fitsP a s q = true) : (cdC W C k).find? (fitsP a s) = some q := by
  have hn : atS (none : Option Pn) (k : Int) = none := rfl
  unfold cdC
  rcases h with ⟨h0, h1 | h1⟩ | ⟨h0, h1⟩
  · rw [h0, h1]
    show (candR (atS (some q) _) (atS (some q) _)).find? _ = _
    rw [atS_own hs]
    show (if q.ep < q.ep then [q, q] else [q, q]).find? _ = _
    rw [if_neg (by omega), List.find?_cons, hf]
  · rw [h0, h1]
    show (candR (atS (some q) _) (atS none _)).find? _ = _
    rw [atS_own hs, hn]
    show [q].find? _ = _
    rw [List.find?_cons, hf]
  · rw [h0, h1]
    show (candR (atS none _) (atS (some q) _)).find? _ = _
    rw [atS_own hs, hn]
    show [q].find? _ = _
    rw [List.find?_cons, hf]
theorem takes_of {W : Nat} {C : Nat → Nat → Ct} {sm : Pn → Int} : ∀ {P : List Pn} {a : Pn} {s : Int} {k : Nat}, FitsL sm a s P → (∀ (i : Nat) (q : Pn), P[i]? = some q → q.seq = ((k + i : Nat) : Int) ∧ Holds C ((k + i) % W) q) → Takes W C sm a s k P
  | [], _, _, _, _, _ => trivial
  | p :: P, a, s, k, hf, h => by
    obtain ⟨h1, h2⟩ := h 0 p rfl
    rw [Nat.add_zero] at h1 h2
    refine ⟨holds_find h2 h1 hf.1, takes_of hf.2 fun i q hq => ?_⟩
    have := h (i + 1) q (by rw [List.getElem?_cons_succ]; exact hq)
    rw [show k + 1 + i = k + (i + 1) by omega]
    exact this
theorem stops_of {W : Nat} {C : Nat → Nat → Ct} {a : Pn} {s : Int} {k : Nat} (h0 : ∀ c, c < 2 → C c (k % W) = .free ∨ C c (k % W) = .bad) (h1 : C 0 (k % W) = .free ∨ C 1 (k % W) = .free) : StopsC W C a s k := by
  have t : ∀ c, c < 2 → tel (C c (k % W)) = none := fun c hc => by
    rcases h0 c hc with e | e <;> rw [e] <;> rfl
  constructor
  · unfold cdC
    rw [t 0 (by omega), t 1 (by omega)]
    rfl
  · unfold clS
    rcases h1 with e | e
    · rw [e]; rfl
    · rw [e]
      show (clC (C 0 (k % W)) || true) = true
      exact Bool.or_true _
end Go.Proofs.YteleknojohnlbaaGreat
