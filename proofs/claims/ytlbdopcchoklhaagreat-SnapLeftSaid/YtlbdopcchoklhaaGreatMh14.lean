/-
  mat.clearColumn, walked: a pivot, a swap, a product, and sums of rows.
-/
import Derived.Test.YtlbdopcchoklhaaGreatMh13
import Derived.BigRegion
namespace Go.Proofs.YtlbdopcchoklhaaGreat
open Go.RowKit
set_option linter.unusedVariables false
set_option maxRecDepth 100000

structure ClearAt (w0 : World) (pc pf pm gf g n m c : Nat) (B : Nat → Nat) (Z : Nat → Nat → Nat) : Prop where
  o : Own w0 g n m B Z
  f : fullAt w0 gf
  cc : w0.cell? ⟨pc, 0, none⟩ = some (.int .i64 (c : Int))
  cf : w0.cell? ⟨pf, 0, none⟩ = some (.pointer (some ⟨gf, 0, none⟩))
  cm : w0.cell? ⟨pm, 0, none⟩ = some (.slice (some ⟨g, 0, none⟩) n n)
  nc : ∀ r, r < n → pc ≠ B r
  nf : ∀ r, r < n → pf ≠ B r
  nm : ∀ r, r < n → pm ≠ B r
  ng : ∀ r, r < n → gf ≠ B r
  n2 : n ≤ 64
  m2 : m ≤ 8192
  cn : c < n
  cm2 : c < m
def rowsOf (n : Nat) (B : Nat → Nat) (j : Nat) : Prop := ∃ r, r < n ∧ j = B r
def ClearRel (w0 : World) (g n m c : Nat) (B : Nat → Nat) (Z : Nat → Nat → Nat) (i : Nat) (W : World) : Prop := Own W g n m B (uptoF i Z (lessZ c Z)) ∧ Ch (rowsOf n B) w0 W
theorem clear_row {c i : Nat} {Z : Nat → Nat → Nat} {k : Nat} : uptoF i Z (lessZ c Z) c k = Z c k := by
  unfold uptoF lessZ
  split
  · rw [if_pos rfl]
  · rfl
set_option maxHeartbeats 1600000 in
theorem clear1_turns (w0 : World) (pc pf pm gf g n m c : Nat) (B : Nat → Nat) (Z : Nat → Nat → Nat) (h : ClearAt w0 pc pf pm gf g n m c B Z) :
    Turns 151 #[.pointer (some ⟨pc, 0, none⟩), .pointer (some ⟨pf, 0, none⟩), .pointer (some ⟨pm, 0, none⟩)] g n m B (ClearRel w0 g n m c B Z) := by
  intro i W hi hP
  refine ⟨hP.1.top.cell hi, ?_⟩
  show Calls Tryz.prog 151 #[.int .i64 (i : Int), .slice (some ⟨B i, 0, none⟩) m m, .pointer (some ⟨pc, 0, none⟩), .pointer (some ⟨pf, 0, none⟩), .pointer (some ⟨pm, 0, none⟩)] W _
  have e1 := hP.2.cell h.cc (fun ⟨r, hr, e⟩ => h.nc r hr e)
  have e2 := hP.2.cell h.cf (fun ⟨r, hr, e⟩ => h.nf r hr e)
  have e3 := hP.2.cell h.cm (fun ⟨r, hr, e⟩ => h.nm r hr e)
  have hcn := h.cn
  have hcm := h.cm2
  have hn2 := h.n2
  have hm2 := h.m2
  by_cases hic : i = c
  · have b1 : ((i : Int) != (c : Int)) = false := by simp [hic]
    have HI := Lib.hid hic
    have HP := Lib.hid hP
    clear hP hic
    go_enter Tryz.func151, Tryz.ntmps151
    go_wp2
    go_end0
    exact ⟨rfl, HP.out.1.stay hi (Ch.refl _ _) (fun k _ => by rw [HI.out]; exact if_pos rfl), HP.out.2⟩
  · have b1 : ((i : Int) != (c : Int)) = true := by simp; omega
    have e4 := hP.1.top.cell hcn
    have e5 := (hP.1.row i hi).cell hcm
    simp only [upto_ge (show ¬ i < i by omega)] at e5
    have hib := h.o.byte i c hi hcm
    have i1 : (0 : Int) ≤ (c : Int) := Int.natCast_nonneg _
    have i2 : (c : Int) < (n : Int) := by omega
    have i3 : (c : Int) < (m : Int) := by omega
    have HX := Lib.hid (show ∀ k, k < m → W.drew.cell? ⟨B c, 0 + k, none⟩ = some (.int .u8 (Z c k : Int)) from fun k hk => by
      rw [Nat.zero_add]
      have := (hP.1.row c hcn).cell hk
      simp only [clear_row] at this
      exact this)
    have HR := Lib.hid (show bRow W.drew (B i) m (Z i) from World.rowIs.drew ((hP.1.row i hi).congr fun k _ => by rw [upto_ge (by omega)]))
    have HF := Lib.hid (show fullAt W.drew gf from h.f.ch hP.2.drew (fun ⟨r, hr, e⟩ => h.ng r hr e))
    have HNG := Lib.hid (h.ng i hi)
    have HNB := Lib.hid (show B c ≠ B i from fun e => hic (h.o.inj c i hcn hi e).symm)
    have HYi := Lib.hid (show Bytes m (Z i) from fun k hk => h.o.byte i k hi hk)
    have HYc := Lib.hid (show Bytes m (Z c) from fun k hk => h.o.byte c k hcn hk)
    have HI := Lib.hid hic
    have HP := Lib.hid hP
    clear hP hic h
    go_enter Tryz.func151, Tryz.ntmps151
    go_wp2
    go_still_tail 10, (by kernel_rfl)
    change wpList _ _ _ _ _ W.drew
    go_wp2_with fail
    refine (addTimes_any gf (B i) m (B c) 0 m m _ (by omega) (by omega) (Z i) (Z c) W.drew (by omega) (Nat.le_refl _) (by omega) HF.out HNG.out HNB.out HR.out HYi.out HYc.out HX.out).mono ?_
    rintro e w2 ⟨rfl, hr2, hc2⟩
    rw [Int.toNat_natCast] at hr2
    have hch : Ch (fun j => j = B i) W w2 := ((Ch.refl _ W).drew).trans hc2
    have HR2 := Lib.hid hr2
    clear hr2 hc2
    go_wp2
    go_end0
    refine ⟨rfl, HP.out.1.step hi hch (World.rowIs.congr HR2.out fun k _ => ?_) (fun k hk => ?_), HP.out.2.trans (hch.mono fun j _ e => ⟨i, hi, e⟩)⟩
    · show _ = Value.int .u8 (lessZ c Z i k : Int)
      unfold lessZ
      rw [if_neg HI.out]
    · unfold lessZ
      rw [if_neg HI.out]
      exact Gf.xor_lt (HYi.out k hk) (Gf.mul_lt _ _)

/-! ### the swap -/
theorem Own.drew {w : World} {g n m : Nat} {B : Nat → Nat} {Z : Nat → Nat → Nat} (h : Own w g n m B Z) : Own w.drew g n m B Z := h.ch ((Ch.refl (fun _ => False) w).drew) (fun f => f) (fun _ _ f => f)
theorem Own.drewN {w : World} {g n m : Nat} {B : Nat → Nat} {Z : Nat → Nat → Nat} (h : Own w g n m B Z) (k : Nat) : Own (w.drewN k) g n m B Z := h.ch ((Ch.refl (fun _ => False) w).drewN k) (fun f => f) (fun _ _ f => f)
theorem Own.swap {w : World} {g n m c p : Nat} {B : Nat → Nat} {Z : Nat → Nat → Nat} (h : Own w g n m B Z) (hc : c < n) (hp : p < n) :
    Own ((w.setCell ⟨g, c, none⟩ (.slice (some ⟨B p, 0, none⟩) m m)).setCell ⟨g, p, none⟩ (.slice (some ⟨B c, 0, none⟩) m m)) g n m (fun r => B (sw c p r)) (fun r k => Z (sw c p r) k) := by
  refine ⟨((h.top.set c _).set p _).congr fun r _ => ?_, fun r hr => ?_, fun r q hr hq e => ?_, fun r hr => h.off _ (sw_lt hc hp hr), fun r k hr hk => h.byte _ k (sw_lt hc hp hr) hk⟩
  · unfold sw
    by_cases h1 : r = c
    · by_cases h2 : r = p
      · rw [if_pos h2, if_pos h1]; rw [← h1, h2]
      · rw [if_neg h2, if_pos h1, if_pos h1]
    · by_cases h2 : r = p
      · rw [if_pos h2, if_neg h1, if_pos h2]
      · rw [if_neg h2, if_neg h1, if_neg h1, if_neg h2]
  · exact ((h.row _ (sw_lt hc hp hr)).setOther (h.off _ (sw_lt hc hp hr)) _).setOther (h.off _ (sw_lt hc hp hr)) _
  · exact sw_inj (h.inj _ _ (sw_lt hc hp hr) (sw_lt hc hp hq) e)

def ClearPost (s g n m c : Nat) (Z : Nat → Nat → Nat) (w : World) (e : Ending) (w' : World) : Prop :=
  (e = .returned (.bool false) ∧ (∀ r, c ≤ r → r < n → Z r c = 0) ∧ Ch (fun _ => False) w w') ∨
  (∃ p B, e = .returned (.bool true) ∧ c ≤ p ∧ p < n ∧ 0 < Z p c ∧ Own w' g n m B (stepZ c p Z) ∧ (∀ r, r < n → s ≤ B r) ∧ Ch (fun j => s ≤ j) w w')

theorem one_get (v : Value) (i : Nat) (hi : i < #[v].size) : #[v][i]? = some v := by
  have e : i = 0 := by simpa using hi
  subst e
  rfl
set_option maxHeartbeats 1600000 in
theorem clear_any (s gf g n m c : Nat) (B : Nat → Nat) (Z : Nat → Nat → Nat) (w : World) (h : Own w g n m B Z) (hf : fullAt w gf) (hgf : gf < s) (hg : s ≤ g) (hB : ∀ r, r < n → s ≤ B r) (n2 : n ≤ 64) (m2 : m ≤ 8192) (hcn : c < n) (hcm : c < m) :
    Calls Tryz.prog 140 #[.pointer (some ⟨gf, 0, none⟩), .slice (some ⟨g, 0, none⟩) n n, .int .i64 (c : Int)] w (ClearPost s g n m c Z w) := by
  obtain ⟨W, hW⟩ : ∃ W, W = ((w.alloc (.cells #[.pointer (some ⟨gf, 0, none⟩)] /-t-/146)).alloc (.cells #[.slice (some ⟨g, 0, none⟩) n n] /-t-/37)).alloc (.cells #[.int .i64 (c : Int)] /-t-/3) := ⟨_, rfl⟩
  have hWc : Ch (fun _ => False) w W := by rw [hW]; exact (((Ch.refl _ _).alloc _ _).alloc _ _).alloc _ _
  have hWs : W.heap.size = w.heap.size + 3 := by rw [hW]; simp
  have r1 : W.rowIs w.heap.size /-t-/146 1 (fun _ => .pointer (some ⟨gf, 0, none⟩)) := by
    rw [hW]; exact (((World.rowIs_alloc w #[.pointer (some ⟨gf, 0, none⟩)] /-t-/146 (fun _ => .pointer (some ⟨gf, 0, none⟩)) (one_get _)).alloc _).alloc _)
  have r2 : W.rowIs (w.heap.size + 1) /-t-/37 1 (fun _ => .slice (some ⟨g, 0, none⟩) n n) := by
    have := World.rowIs_alloc (w.alloc (.cells #[.pointer (some ⟨gf, 0, none⟩)] /-t-/146)) #[.slice (some ⟨g, 0, none⟩) n n] /-t-/37 (fun _ => .slice (some ⟨g, 0, none⟩) n n) (one_get _)
    rw [hW]; simpa using this.alloc (.cells #[.int .i64 (c : Int)] /-t-/3)
  have r3 : W.rowIs (w.heap.size + 1 + 1) /-t-/3 1 (fun _ => .int .i64 (c : Int)) := by
    have := World.rowIs_alloc ((w.alloc (.cells #[.pointer (some ⟨gf, 0, none⟩)] /-t-/146)).alloc (.cells #[.slice (some ⟨g, 0, none⟩) n n] /-t-/37)) #[.int .i64 (c : Int)] /-t-/3 (fun _ => .int .i64 (c : Int)) (one_get _)
    rw [hW]; simpa using this
  have c1 := r1.cell (i := 0) (by omega)
  have c2 := r2.cell (i := 0) (by omega)
  have c3 := r3.cell (i := 0) (by omega)
  have hWo := h.ch hWc (fun f => f) (fun _ _ f => f)
  have HO := Lib.hid hWo
  have HWC := Lib.hid hWc
  have HWS := Lib.hid hWs
  have HL := Lib.hid (show ∀ r, r < n → B r < w.heap.size from fun r hr => (h.row r hr).lt)
  have HF := Lib.hid (hf.ch hWc (fun f => f))
  have hgl := h.top.lt
  clear hWo hWc hWs h r1 r2 r3 hf
  go_enter Tryz.func140, Tryz.ntmps140
  go_wp2_with fail
  have HW := Lib.hid hW
  clear hW
  rw [← HW.out]
  refine (pivot_any g n m c B Z W HO.out n2 m2 (by omega) hcm).mono ?_
  rintro e w1 ⟨p, rfl, rfl, p1, p2, hz, hpz⟩
  by_cases hpn : p = n
  · have b1 : ((p : Int) == (n : Int)) = true := by simp [hpn]
    have HZ := Lib.hid (show ∀ r, c ≤ r → r < n → Z r c = 0 from fun r h1 h2 => hz r h1 (by omega))
    clear hz hpz hpn
    go_wp2
    go_ret
    exact Or.inl ⟨rfl, HZ.out, HWC.out⟩
  · have b1 : ((p : Int) == (n : Int)) = false := by rw [beq_eq_false_iff_ne]; omega
    have hplt : p < n := by omega
    have HPZ := Lib.hid (hpz hplt)
    clear hz hpz hpn
    have e1 := HO.out.top.cell hcn
    have e2 := HO.out.top.cell hplt
    have f1 := HO.out.top.frozen c
    have f2 := HO.out.top.frozen p
    have i1 : (0 : Int) ≤ (c : Int) := Int.natCast_nonneg _
    have i2 : (c : Int) < (n : Int) := by omega
    have i3 : (0 : Int) ≤ (p : Int) := Int.natCast_nonneg _
    have i4 : (p : Int) < (n : Int) := by omega
    obtain ⟨v', hv'⟩ : ∃ v', (W.setCell ⟨g, c, none⟩ (.slice (some ⟨B p, 0, none⟩) m m)).cell? ⟨g, p, none⟩ = some v' := ⟨_, (HO.out.top.set c _).cell hplt⟩
    have k2 : (W.setCell ⟨g, c, none⟩ (.slice (some ⟨B p, 0, none⟩) m m)).cell? ⟨w.heap.size + 1, 0, none⟩ = some (.slice (some ⟨g, 0, none⟩) n n) := by
      rw [World.cell?_setCell_other _ _ _ _ (fun e => by have := congrArg Addr.block e; simp at this; omega)]; exact c2
    have k3 : (W.setCell ⟨g, c, none⟩ (.slice (some ⟨B p, 0, none⟩) m m)).cell? ⟨w.heap.size + 1 + 1, 0, none⟩ = some (.int .i64 (c : Int)) := by
      rw [World.cell?_setCell_other _ _ _ _ (fun e => by have := congrArg Addr.block e; simp at this; omega)]; exact c3
    go_wp2
    go_region
    obtain ⟨V, hV⟩ : ∃ V, V = ((W.setCell ⟨g, c, none⟩ (.slice (some ⟨B p, 0, none⟩) m m)).setCell ⟨g, p, none⟩ (.slice (some ⟨B c, 0, none⟩) m m)).drew := ⟨_, rfl⟩
    have HV := Lib.hid hV
    rw [← HV.out]
    clear hV
    as_aux_lemma =>
      have hsw : sw c p c = p := if_pos rfl
      have hVo : Own V g n m (fun r => B (sw c p r)) (swapZ c p Z) := by rw [HV.out]; exact (HO.out.swap hcn hplt).drew
      have hVch : Ch (fun j => j = g) W V := by
        rw [HV.out]; exact (((Ch.refl (fun j => j = g) W).setCell (p := ⟨g, c, none⟩) (Or.inl rfl) _).setCell (p := ⟨g, p, none⟩) (Or.inl rfl) _).drew
      have d1 := hVch.cell c1 (by show ¬ w.heap.size = g; omega)
      have d2 := hVch.cell c2 (by show ¬ w.heap.size + 1 = g; omega)
      have d3 := hVch.cell c3 (by show ¬ w.heap.size + 1 + 1 = g; omega)
      have d4 : V.cell? ⟨g, c, none⟩ = some (.slice (some ⟨B p, 0, none⟩) m m) := by have := hVo.top.cell hcn; simp only [hsw] at this; exact this
      have hrp : bRow V (B p) m (Z p) := by have := hVo.row c hcn; simp only [hsw] at this; exact this.congr fun k _ => by unfold swapZ; rw [hsw]
      have d5 := World.rowIs.cell hrp hcm
      have hzp := HO.out.byte p c hplt hcm
      have HFV := Lib.hid (HF.out.ch hVch (show ¬ gf = g by omega))
      have HVO := Lib.hid hVo
      have HVC := Lib.hid hVch
      have HRP := Lib.hid hrp
      have HSW := Lib.hid hsw
      have HQ := Lib.hid (show qv 1 (Z p c) = (Gf.quo 1 (Z p c) : Int) from qv_pos (by have := HPZ.out; omega))
      have hq1 := Gf.quo_lt 1 (Z p c)
      have i5 : (c : Int) < (m : Int) := by omega
      clear hVo hVch hrp hsw c1 c2 c3 e1 e2 f1 f2 hv' k2 k3
      go_wp2
      go_quiet ((go_at_call 137; exact Qu.at (inv_full _ _ (by omega) (by omega) _ (HFV.out.drewN _))))
      obtain ⟨V2, hV2⟩ : ∃ V2, V2 = V.drewN nq := ⟨_, rfl⟩
      have HV2 := Lib.hid hV2
      rw [← HV2.out, Int.toNat_natCast, HQ.out]
      have g1 : V2.cell? ⟨w.heap.size, 0, none⟩ = some (.pointer (some ⟨gf, 0, none⟩)) := by rw [hV2]; exact d1
      have g2 : V2.cell? ⟨w.heap.size + 1, 0, none⟩ = some (.slice (some ⟨g, 0, none⟩) n n) := by rw [hV2]; exact d2
      have g3 : V2.cell? ⟨w.heap.size + 1 + 1, 0, none⟩ = some (.int .i64 (c : Int)) := by rw [hV2]; exact d3
      have g4 : V2.cell? ⟨g, c, none⟩ = some (.slice (some ⟨B p, 0, none⟩) m m) := by rw [hV2]; exact d4
      have HF2 := Lib.hid (show fullAt V2.drew gf by rw [hV2]; exact HFV.out)
      have HR2 := Lib.hid (show bRow V2.drew (B p) m (Z p) by rw [hV2]; exact HRP.out)
      have HO2 := Lib.hid (show Own V2.drew g n m (fun r => B (sw c p r)) (swapZ c p Z) by rw [hV2]; exact (HVO.out.drewN nq).drew)
      have HC2 := Lib.hid (show Ch (fun j => j = g) W V2.drew by rw [hV2]; exact (HVC.out.drewN nq).drew)
      have HB2 := Lib.hid (show Bytes m (Z p) from fun k hk => HO.out.byte p k hplt hk)
      have hgfB : gf ≠ B p := by have := hB p hplt; omega
      clear hV2 d1 d2 d3 d4 d5
      go_wp2
      go_still_tail 6, (by kernel_rfl)
      change wpList _ _ _ _ _ V2.drew
      go_wp2_with fail
      refine (times_any gf (B p) m _ (by omega) (by omega) (Z p) V2.drew (by omega) HF2.out hgfB HR2.out HB2.out).mono ?_
      rintro e w4 ⟨rfl, hr4, hc4⟩
      rw [Int.toNat_natCast] at hr4
      have hO4 : Own w4 g n m (fun r => B (sw c p r)) (scaleZ c (Gf.quo 1 (Z p c)) (swapZ c p Z)) := by
        have hc4' : Ch (fun j => j = (fun r => B (sw c p r)) c) V2.drew w4 := hc4.mono fun j _ e => by show j = B (sw c p c); rw [HSW.out]; exact e
        have hr4' : bRow w4 ((fun r => B (sw c p r)) c) m (fun k => Gf.mul (Z p k) (Gf.quo 1 (Z p c))) := by show bRow w4 (B (sw c p c)) m _; rw [HSW.out]; exact hr4
        refine (HO2.out.turn hcn hc4' hr4' (fun k _ => Gf.mul_lt _ _)).congr fun r k _ _ => ?_
        unfold scaleZ swapZ
        by_cases e : r = c
        · rw [if_pos e, if_pos e, e, HSW.out]
        · rw [if_neg e, if_neg e]
      have hws := HWS.out
      have hnr : ∀ q, w.heap.size ≤ q → ∀ r, r < n → q ≠ B (sw c p r) := fun q hq r hr e => by
        have := HL.out (sw c p r) (sw_lt hcn hplt hr)
        omega
      have hq1' : ¬ w.heap.size = B p := fun e => by have := HL.out p hplt; omega
      have hat : ClearAt w4 (w.heap.size + 1 + 1) w.heap.size (w.heap.size + 1) gf g n m c (fun r => B (sw c p r)) (scaleZ c (Gf.quo 1 (Z p c)) (swapZ c p Z)) :=
        ⟨hO4, HF2.out.ch hc4 hgfB, hc4.cell (p := ⟨w.heap.size + 1 + 1, 0, none⟩) g3 (fun e => by have := HL.out p hplt; have e' : w.heap.size + 1 + 1 = B p := e; omega), hc4.cell (p := ⟨w.heap.size, 0, none⟩) g1 hq1', hc4.cell (p := ⟨w.heap.size + 1, 0, none⟩) g2 (fun e => by have := HL.out p hplt; have e' : w.heap.size + 1 = B p := e; omega),
          hnr _ (by omega), hnr _ (by omega), hnr _ (by omega), fun r hr e => by have := hB _ (sw_lt hcn hplt hr); have e' : gf = B (sw c p r) := e; omega, n2, m2, hcn, hcm⟩
      have g2' := hc4.cell (p := ⟨w.heap.size + 1, 0, none⟩) g2 (fun e => by have := HL.out p hplt; have e' : w.heap.size + 1 = B p := e; omega)
      have HT := Lib.hid (clear1_turns w4 _ _ _ _ _ _ _ _ _ _ hat)
      have HO4 := Lib.hid hO4
      have hBp := hB p hplt
      have hchw : Ch (fun j => s ≤ j) w w4 := ((HWC.out.mono fun _ _ f => f.elim).trans (HC2.out.mono fun j _ e => by rw [e]; exact hg)).trans (hc4.mono fun j _ e => by rw [e]; exact hBp)
      clear hat hO4 hr4 hc4 hws hnr hq1' g1 g2 g3 g4
      go_wp2_with fail
      refine (turn3_any 151 _ _ _ _ _ _ _ _ w4 (by omega) enter49 HT.out ⟨HO4.out.start _, Ch.refl _ _⟩).mono ?_
      rintro e w5 ⟨rfl, hP, hch5⟩
      go_wp2
      go_ret
      refine Or.inr ⟨p, _, rfl, p1, hplt, HPZ.out, hP.finish, fun r hr => hB _ (sw_lt hcn hplt hr), hchw.trans (hch5.mono fun j _ e => ?_)⟩
      obtain ⟨r, hr, rfl⟩ := e
      exact hB _ (sw_lt hcn hplt hr)
end Go.Proofs.YtlbdopcchoklhaaGreat
