/-
  The document's Decode, walked.
-/
import Derived.Test.YtlgdajmidcdiaaaRsD
namespace Go.Proofs.Ytlgdajmidcdiaaa
open Go.RowKit
set_option linter.unusedVariables false

/-! ### how long, so far -/
def lngZ (L : Nat → Nat) (i : Nat) : Nat := if 0 < (idx L i).length then longZ L i else 0
theorem lng_next {L : Nat → Nat} {i : Nat} (h0 : 0 < L i) (h : 0 < lngZ L i → L i = lngZ L i) : lngZ L (i + 1) = L i := by
  unfold lngZ
  rw [if_pos (by rw [idx_yes h0, List.length_append]; simp)]
  by_cases q : 0 < (idx L i).length
  · have e : lngZ L i = longZ L i := if_pos q
    have hp : 0 < longZ L i := wh_pos q
    rw [e] at h
    unfold longZ
    rw [wh_snoc q]
    exact (h hp).symm
  · have e : idx L i = [] := List.length_eq_zero_iff.1 (by omega)
    unfold longZ wh
    rw [idx_yes h0, e]; rfl
theorem lng_skip {L : Nat → Nat} {i : Nat} (h0 : ¬ 0 < L i) : lngZ L (i + 1) = lngZ L i := by
  unfold lngZ longZ wh; rw [idx_no h0]
theorem lng_done {L : Nat → Nat} {n : Nat} (h : 0 < (idx L n).length) : lngZ L n = longZ L n := if_pos h
theorem Fits.skip {L : Nat → Nat} {i : Nat} (h : Fits L i) (h0 : ¬ 0 < L i) : Fits L (i + 1) := fun a ha a0 => by
  have ha' : a < i := by
    by_cases e : a = i
    · rw [e] at a0; exact absurd a0 h0
    · omega
  refine ⟨(h a ha' a0).1, fun b hb b0 => ?_⟩
  have hb' : b < i := by
    by_cases e : b = i
    · rw [e] at b0; exact absurd b0 h0
    · omega
  exact (h a ha' a0).2 b hb' b0
theorem Fits.lng {L : Nat → Nat} {i a : Nat} (h : Fits L i) (ha : a < i) (a0 : 0 < L a) : L a = lngZ L i := by
  have hp : 0 < (idx L i).length := List.length_pos_of_mem (idx_mem.2 ⟨ha, a0⟩)
  rw [lng_done hp]; exact h.long ha a0
theorem Fits.next {L : Nat → Nat} {i : Nat} (h : Fits L i) (h0 : 0 < L i) (h4 : L i ≤ 4096) (hl : 0 < lngZ L i → L i = lngZ L i) : Fits L (i + 1) := by
  have key : ∀ a, a < i + 1 → 0 < L a → L a = L i := fun a ha a0 => by
    by_cases e : a = i
    · rw [e]
    · have e1 := h.lng (show a < i by omega) a0
      rw [hl (by rw [← e1]; exact a0)]; exact e1
  exact fun a ha a0 => ⟨by rw [key a ha a0]; exact h4, fun b hb b0 => by rw [key a ha a0, key b hb b0]⟩
theorem not_fits {L : Nat → Nat} {n i : Nat} (hi : i < n) (h0 : 0 < L i) (h : 4096 < L i ∨ (0 < lngZ L i ∧ L i ≠ lngZ L i)) : ¬ Fits L n := fun hf => by
  rcases h with h | ⟨h1, h2⟩
  · have := (hf i hi h0).1; omega
  · have hq : 0 < (idx L i).length := by
      by_cases q : 0 < (idx L i).length
      · exact q
      · unfold lngZ at h1; rw [if_neg q] at h1; omega
    have e : lngZ L i = L (wh L i 0) := if_pos hq
    rw [e] at h2
    exact h2 ((hf i hi h0).2 _ (by have := wh_lt hq; omega) (wh_pos hq))
def jj (L : Nat → Nat) (k i : Nat) : Nat := min k (idx L i).length
theorem jj_le (L : Nat → Nat) (k i : Nat) : jj L k i ≤ k := Nat.min_le_left _ _
theorem jj_zero (L : Nat → Nat) (k : Nat) : jj L k 0 = 0 := by unfold jj idx; simp
theorem jj_all {L : Nat → Nat} {k n : Nat} (h : k ≤ (idx L n).length) : jj L k n = k := Nat.min_eq_left h
theorem jj_skip {L : Nat → Nat} {k i : Nat} (h0 : ¬ 0 < L i) : jj L k (i + 1) = jj L k i := by unfold jj; rw [idx_no h0]
theorem jj_more {L : Nat → Nat} {k i : Nat} (h0 : 0 < L i) (h : jj L k i < k) : jj L k (i + 1) = jj L k i + 1 ∧ jj L k i = (idx L i).length := by
  unfold jj at h ⊢
  rw [idx_yes h0, List.length_append]
  simp only [List.length_singleton]
  omega
theorem jj_full {L : Nat → Nat} {k i : Nat} (h0 : 0 < L i) (h : ¬ jj L k i < k) : jj L k (i + 1) = jj L k i := by
  unfold jj at h ⊢
  rw [idx_yes h0, List.length_append]
  simp only [List.length_singleton]
  omega
theorem wh_new {L : Nat → Nat} {n i : Nat} (hi : i < n) (h0 : 0 < L i) : wh L n (idx L i).length = i := by
  have hl : (idx L i).length < (idx L (i + 1)).length := by rw [idx_yes h0, List.length_append]; simp
  rw [wh_up hl (by omega)]
  unfold wh
  rw [idx_yes h0, List.getD, List.getElem?_append_right (Nat.le_refl _)]
  simp
def RDec (L : Nat → Nat) (n k : Nat) (D : Nat → Nat → Nat) (w : World) (e : Ending) (w' : World) : Prop :=
  (¬ Fits L n ∧ ErrPost 1 w e w') ∨ (Fits L n ∧ (idx L n).length < k ∧ ErrPost 9 w e w') ∨ (Fits L n ∧ k ≤ (idx L n).length ∧ MatPost n (longZ L n) (sharesZ k D) w e w')
/-- What the first loop keeps. -/
def PickAt (L : Nat → Nat) (k i : Nat) (FR Fsv : Nat → Value) (n : Nat) (w1 wr : World) (vx vy : Value) : Prop :=
  Fits L i ∧ TwoRel w1 wr vx (jj L k i) (fun r => FR (wh L n r)) vy (jj L k i) (fun r => Fsv (wh L n r))
theorem up_same {F : Nat → Value} {j : Nat} {u : Value} (h : F j = u) : ∀ r, r < j + 1 → upF F j u r = F r := fun r _ => by
  unfold upF
  by_cases e : r = j
  · rw [if_pos e, e, h]
  · rw [if_neg e]
theorem owns_byte {w : World} {base g n cap i : Nat} {z : Nat → Nat} (h : w.ownsRow base /-t-/5 1 (.slice (some ⟨g, 0, none⟩) n cap) n (bytesL n z)) (hi : i < n) : w.cell? ⟨g, i, none⟩ = some (.int .u8 (z i : Int)) := by
  have := World.ownsRow.cells h (g := g) rfl i (.int .u8 (z i : Int)) (by unfold bytesL; simp [hi])
  rwa [add_pl, Nat.zero_add] at this
def cntZ (c i r : Nat) : Nat := if r < i then c + 1 else c
theorem cnt_next (c i r : Nat) : up1 (cntZ c i) i (cntZ c i i + 1) r = cntZ c (i + 1) r := by
  unfold up1 cntZ
  by_cases e : r = i
  · subst e; rw [if_pos rfl, if_neg (Nat.lt_irrefl _), if_pos (by omega)]
  · rw [if_neg e]
    by_cases q : r < i
    · rw [if_pos q, if_pos (by omega)]
    · rw [if_neg q, if_neg (by omega)]
/-- What the last loop keeps. -/
def GrowAt (base : Nat) (wp w7 wj : World) (gd g8 k c i : Nat) (D : Nat → Nat → Nat) : Prop :=
  ∃ V, DataAt base wj gd k V (cntZ c i) D ∧ Ch (fun _ => False) wp wj ∧ wj.heap[g8]? = w7.heap[g8]? ∧ (∀ r, r < k → (V r).ownBlock ≠ some g8) ∧ w7.heap.size ≤ wj.heap.size
theorem dec_mat {base : Nat} {w : World} {v : Value} {n k m m2 : Nat} {D : Nat → Nat → Nat} (hD : AllB D) (hk : k ≤ n) (hn : n ≤ 64) (hm : m = m2) (h : BldL base 0 w v (k + (n - k)) (jn k (fun _ => m) (fun _ => m)) (jz k D (mulZ k (cauZ k) D))) : MatV w v n (fun _ => m2) (sharesZ k D) := by
  have e : k + (n - k) = n := by omega
  rw [e] at h
  subst hm
  exact ((BldL.lens h (fun r _ => jn_const k m r)).congr fun r c _ _ => shares_join hD r c).mat (by omega)
set_option maxHeartbeats 6400000 in
set_option maxRecDepth 100000 in
theorem rdecode_any (bs os Cs n k : Nat) (L : Nat → Nat) (X D : Nat → Nat → Nat) (hX : AllB X) (w : World) (k1 : 1 ≤ k) (k2 : k ≤ n) (n64 : n ≤ 64) (hs : MatV w (.slice (some ⟨bs, os, none⟩) n Cs) n L X) (hD : Fits L n → k ≤ (idx L n).length → DataOf L n k (longZ L n) X D) :
    Calls Try.prog 18 #[.slice (some ⟨bs, os, none⟩) n Cs, .int .i64 (k : Int)] w (RDec L n k D w) := by
  obtain ⟨Fsv, hFS, hFSr⟩ := mat_F hs
  have HFS := Lib.hid hFS
  have HFSR := Lib.hid hFSr
  have HX := Lib.hid hX
  have HD := Lib.hid hD
  have HSUB := Lib.hid (sub_nat k2)
  have HSL := Lib.hid (show ∀ i, i < n → ∃ A D, w.cell? ⟨bs, os + i, none⟩ = some (.slice A (L i) D) ∧ Fsv i = .slice A (L i) D from fun i hi => by
    obtain ⟨A, l, D, e, hc⟩ := hFS i hi
    obtain ⟨A2, C2, e2, _⟩ := hFSr i hi
    rw [e] at e2
    injection e2 with e3 e4 e5
    subst e4
    exact ⟨A, D, hc, e⟩)
  obtain ⟨i0, hi, hz0, hz1, hz2⟩ := info_parts Try.info33
  obtain ⟨j0, gi, gz0, gz1, gz2⟩ := info_parts Try.info5
  clear hFS hFSr hX hD hs
  go_enter Try.func18, Try.ntmps18
  go_wp2_with fail
  rw [HSUB.out]
  refine (rrows_new k (n - k) k1 (by omega) _).mono ?_
  rintro e w1 ⟨vr, rfl, hB, hch1⟩
  rw [show k + (n - k) = n by omega] at hB
  have hBm := hB.mat (by omega)
  obtain ⟨br, ob, Cr, rfl, _, _⟩ := hBm.some (by omega)
  obtain ⟨FR, hFR, hFRr⟩ := mat_F hBm
  have HFR := Lib.hid hFR
  have HFRR := Lib.hid hFRr
  have HC1 := Lib.hid hch1
  clear hch1 hB hBm hFR hFRr
  go_wp2
  go_loopw [8, 9, 10, 11, 12, 13] (fun t8 vx vy t11 t12 _ wr => ∃ i : Nat, i ≤ n ∧ t12 = .int .i64 i ∧ t8 = .int .i64 (lngZ L i : Int) ∧ t11 = .int .i64 ((idx L i).length : Int) ∧ Hid (PickAt L k i FR Fsv n w1 wr vx vy)) (fun _ _ _ _ t _ _ => n - (intOf t).toNat)
  case atStart => exact ⟨0, Nat.zero_le _, rfl, rfl, rfl, Lib.hid ⟨fun i hi => absurd hi (Nat.not_lt_zero i), Ch.refl _ _, by rw [jj_zero]; exact World.ownsRow_nil _ _ _ _, by rw [jj_zero]; exact World.ownsRow_nil _ _ _ _, fun q hq => by cases hq⟩⟩
  case round =>
    obtain ⟨i, hin, rfl, rfl, rfl, HP⟩ := hrel
    have hlen := idx_len L i
    have hjk := jj_le L k i
    by_cases hlt : i < n
    · obtain ⟨As, Ds, cs, hfs⟩ := HSL.out i hlt
      have c1 := (HC1.out.trans HP.out.2.ch).cell cs (fun f => f)
      by_cases h0 : 0 < L i
      case neg =>
        have hz : L i = 0 := by omega
        rw [hz] at c1
        have HN := Lib.hid (show PickAt L k (i + 1) FR Fsv n w1 wr u9 u10 from ⟨HP.out.1.skip h0, by rw [jj_skip h0]; exact HP.out.2⟩)
        have HL1 := Lib.hid (lng_skip h0)
        have HI1 := Lib.hid (idx_no h0)
        clear hz h0 cs hfs HP
        go_wp2
        go_roundw
        case rel => exact ⟨i + 1, by omega, by go_num, by rw [HL1.out], by rw [HI1.out], HN⟩
        case measure => simp [intOf]; omega
      have tz : ((L i : Int) == 0) = false := by rw [beq_eq_false_iff_ne]; omega
      by_cases hbad : 4096 < L i ∨ (0 < lngZ L i ∧ L i ≠ lngZ L i)
      · have HNF := Lib.hid (not_fits hlt h0 hbad)
        have HCW := Lib.hid (HC1.out.trans HP.out.2.ch)
        clear cs hfs HP
        by_cases h4 : 4096 < L i
        · have tA : decide ((4096 : Int) < (L i : Int)) = true := by simp; omega
          clear hbad
          go_wp2
          go_ret2
          exact Or.inl ⟨HNF.out, rfl, HCW.out⟩
        · have tA : decide ((4096 : Int) < (L i : Int)) = false := by simp; omega
          have hb2 : 0 < lngZ L i ∧ L i ≠ lngZ L i := by
            rcases hbad with q | q
            · exact absurd q h4
            · exact q
          have tB : decide (0 < lngZ L i) = true := decide_eq_true hb2.1
          have tC : ((L i : Int) != (lngZ L i : Int)) = true := by simp; have := hb2.2; omega
          clear hbad hb2
          go_wp2
          go_ret2
          exact Or.inl ⟨HNF.out, rfl, HCW.out⟩
      · have h4 : L i ≤ 4096 := by
          by_cases q : L i ≤ 4096
          · exact q
          · exact absurd (Or.inl (by omega)) hbad
        have hl : 0 < lngZ L i → L i = lngZ L i := fun q => by
          by_cases e : L i = lngZ L i
          · exact e
          · exact absurd (Or.inr ⟨q, e⟩) hbad
        have tA : decide ((4096 : Int) < (L i : Int)) = false := by simp; omega
        have htest : decide (0 < lngZ L i) = false ∨ (decide (0 < lngZ L i) = true ∧ ((L i : Int) != (lngZ L i : Int)) = false) := by
          by_cases q : 0 < lngZ L i
          · exact Or.inr ⟨decide_eq_true q, by have := hl q; simp; omega⟩
          · exact Or.inl (decide_eq_false q)
        have HFN := Lib.hid (HP.out.1.next h0 h4 hl)
        have HL1 := Lib.hid (lng_next h0 hl)
        have HI1 := Lib.hid (show (idx L (i + 1)).length = (idx L i).length + 1 by rw [idx_yes h0]; simp)
        obtain ⟨A9, C9, rfl, _⟩ := form_len HP.out.2.x
        obtain ⟨Ar, lr, Dr, hfr, cr⟩ := HFR.out i hlt
        have cr1 := HP.out.2.ch.cell cr (fun f => f)
        have h40 := h4
        clear hbad hl h4
        by_cases hjl : jj L k i < k
        · have tD : decide (jj L k i < k) = true := decide_eq_true hjl
          obtain ⟨hj1, hj2⟩ := jj_more h0 hjl
          have hwn := wh_new hlt h0
          rw [← hj2] at hwn
          have HJ1 := Lib.hid hj1
          have HWX := Lib.hid (show (fun r => FR (wh L n r)) (jj L k i) = .slice Ar lr Dr by show FR (wh L n (jj L k i)) = _; rw [hwn]; exact hfr)
          have HWY := Lib.hid (show (fun r => Fsv (wh L n r)) (jj L k i) = .slice As (L i) Ds by show Fsv (wh L n (jj L k i)) = _; rw [hwn]; exact hfs)
          have HT := Lib.hid HP.out.2
          have HCR := Lib.hid cr
          have HCS := Lib.hid cs
          have HAP := Lib.hid (app_mk (x := .slice Ar lr Dr) HP.out.2.x HP.out.2.ch.size rfl (by omega))
          have HM2 := Lib.hid (show (jj L k i + 1) * 24 ≤ 140737488355328 by omega)
          clear hj1 hj2 hwn cr cs hfr hfs HP
          rcases htest with tB | ⟨tB, tC⟩
          all_goals
            go_upto_region 19 with (at_builtin; refine wpList_append_lies _ rfl (.tmp 64) (.tmp 69) /-t-/22 rfl w1.heap.size /-t-/33 i0 (.slice none 0 0) 1 24 Try.underlying22 hi hz0 hz1 hz2 rfl (by decide) (.slice A9 (jj L k i) C9) (jj L k i) (valsL (jj L k i) (fun r => FR (wh L n r))) rfl HAP.out.o ⟨wr.heap.size, 0, none⟩ 1 1 [.slice Ar lr Dr] rfl rfl HAP.out.n HAP.out.c (by decide) HAP.out.m HM2.out HAP.out.b (wr.heap.size + 1) HAP.out.s ?_; intro gx capx w5 h1 h2 h3 h4)
            have hP5 := HT.out.app h1 h2 h3
            have HP5 := Lib.hid hP5
            have c5 := (HC1.out.trans hP5.ch).cell HCS.out (fun f => f)
            have HAP2 := Lib.hid (app_mk (x := .slice As (L i) Ds) hP5.y hP5.ch.size rfl (by omega))
            clear h1 h2 h3 h4 hP5 c1 cr1
            go_wp2_with (at_builtin; refine wpList_append_lies _ rfl (.tmp 71) (.tmp 76) /-t-/22 rfl w1.heap.size /-t-/33 i0 (.slice none 0 0) 1 24 Try.underlying22 hi hz0 hz1 hz2 rfl (by decide) u10 (jj L k i) (valsL (jj L k i) (fun r => Fsv (wh L n r))) rfl HAP2.out.o ⟨w5.heap.size, 0, none⟩ 1 1 [.slice As (L i) Ds] rfl rfl HAP2.out.n HAP2.out.c (by decide) HAP2.out.m HM2.out HAP2.out.b (w5.heap.size + 1) HAP2.out.s ?_; intro gy capy w6 h1 h2 h3 h4)
            have hP6 := (HP5.out.flip.app h1 h2 h3).flip.congr (up_same HWX.out) (up_same HWY.out)
            rw [← HJ1.out] at hP6
            have HN := Lib.hid (show PickAt L k (i + 1) FR Fsv n w1 w6 (.slice (some ⟨gx, 0, none⟩) (jj L k i + 1) capx) (.slice (some ⟨gy, 0, none⟩) (jj L k i + 1) capy) from ⟨HFN.out, by rw [← HJ1.out]; exact hP6⟩)
            clear h1 h2 h3 h4 hP6 c5
            go_wp2
            go_roundw
            case rel => exact ⟨i + 1, by omega, by go_num, by rw [HL1.out], by rw [HI1.out]; go_num, HN⟩
            case measure => simp [intOf]; omega
        · have tD : decide (jj L k i < k) = false := decide_eq_false hjl
          have HN := Lib.hid (show PickAt L k (i + 1) FR Fsv n w1 wr (.slice A9 (jj L k i) C9) u10 from ⟨HFN.out, by rw [jj_full h0 hjl]; exact HP.out.2⟩)
          clear cr cs hfr hfs HP
          rcases htest with tB | ⟨tB, tC⟩
          all_goals
            go_wp2
            go_roundw
            case rel => exact ⟨i + 1, by omega, by go_num, by rw [HL1.out], by rw [HI1.out]; go_num, HN⟩
            case measure => simp [intOf]; omega
    · have HE := Lib.hid (show i = n by omega)
      obtain ⟨wp, rfl⟩ : ∃ wp : World, wp = wr := ⟨_, rfl⟩
      obtain ⟨hfit, hT⟩ := HP.out
      rw [HE.out] at hfit hT
      obtain ⟨q, hq⟩ : ∃ q, q = (idx L i).length := ⟨_, rfl⟩
      have HQ := Lib.hid (show (idx L n).length = q by rw [hq, HE.out])
      rw [← hq]
      obtain ⟨l, hl⟩ : ∃ l, l = lngZ L i := ⟨_, rfl⟩
      have HLN := Lib.hid (show lngZ L n = l by rw [hl, HE.out])
      rw [← hl]
      have HFit := Lib.hid hfit
      have HCP := Lib.hid (HC1.out.trans hT.ch)
      clear hq hl HP hlen hjk
      by_cases hkq : k ≤ q
      case neg =>
        have t1 : decide (q < k) = true := decide_eq_true (by omega)
        clear hT hfit
        go_wp2
        go_ret2
        exact Or.inr (Or.inl ⟨HFit.out, by rw [HQ.out]; omega, rfl, HCP.out⟩)
      have t1 : decide (q < k) = false := decide_eq_false (by omega)
      have hkl : k ≤ (idx L n).length := by rw [HQ.out]; exact hkq
      have hll : l = longZ L n := by rw [← HLN.out]; exact lng_done (by omega)
      have hlb := hfit.bounds (by omega)
      have HDA := Lib.hid (HD.out hfit hkl)
      rw [jj_all hkl] at hT
      have hMx : MatV wp u9 k (fun _ => k) (rowsZ L n k) := owns_matF hT.x (by omega) (fun r hr => (HFRR.out _ (wh_lt (by omega))).ch hT.ch (fun _ _ f => f))
      obtain ⟨gy, capy, rfl, _, _⟩ := World.ownsRow.form hT.y (by omega)
      have HOF := Lib.hid (show ∀ r, r < k → ∃ bx ox Dx, wp.cell? ⟨gy, r, none⟩ = some (.slice (some ⟨bx, ox, none⟩) l Dx) ∧ ∀ c, c < l → wp.cell? ⟨bx, ox + c, none⟩ = some (.int .u8 (X (wh L n r) c : Int)) from fun r hr => by
        have hw := (owns_at hT.y hr).1
        have hv := (HFSR.out _ (wh_lt (show r < (idx L n).length by omega))).ch (HC1.out.trans hT.ch) (fun _ _ f => f)
        rw [hfit.wh (by omega), ← hll] at hv
        obtain ⟨A, Dx, e, _, h3⟩ := hv
        obtain ⟨bx, ox, rfl, hcb⟩ := h3 (by omega)
        exact ⟨bx, ox, Dx, by rw [hw]; exact congrArg some e, fun c hc => (hcb c hc).1⟩)
      have HLL := Lib.hid hll
      have l1 : 1 ≤ l := by omega
      have l2 : l ≤ 4096 := by omega
      obtain ⟨A9, C9, rfl, _⟩ := id hMx
      have HMX := Lib.hid hMx
      have hmk := run_make_row' (P := Try.prog) /-t-/22 /-t-/33 (.slice none 0 0) 24 Try.underlying22 Try.info33 rfl .i64 .i64 k (by omega) (by omega)
      have HKL := Lib.hid hkl
      clear hMx hT hfit hll hlb hkl HFR HFRR HFS HFSR HSL
      go_wp2
      obtain ⟨wd, hwd⟩ : ∃ wd, wd = wp.alloc (.cells (madeCells #[Value.slice none 0 0] k) /-t-/33) := ⟨_, rfl⟩
      rw [← hwd]
      have hds : wd.heap.size = wp.heap.size + 1 := by rw [hwd]; simp
      have hdc : Ch (fun _ => False) wp wd := by rw [hwd]; exact (Ch.refl _ _).alloc _ _
      have hd0 : DataAt (wp.heap.size + 1) wd wp.heap.size k (fun _ => .slice none 0 0) (fun _ => 0) D := by
        refine ⟨?_, fun r _ => World.ownsRow_nil _ _ _ _, (fun r s _ _ _ q hq => by cases hq), by omega⟩
        obtain ⟨cs, h1, h2, h3⟩ := World.rowIs_made wp (.slice none 0 0) k /-t-/33
        exact ⟨cs, by rw [hwd]; exact h1, h2, h3⟩
      have H0 := Lib.hid (show ∃ V, DataAt (wp.heap.size + 1) wd wp.heap.size k V (fun _ => 0) D ∧ Ch (fun _ => False) wp wd ∧ wp.heap.size + 1 ≤ wd.heap.size from ⟨_, hd0, hdc, by omega⟩)
      clear hmk hwd hds hdc hd0 t1
      go_loopw [15, 16, 17, 18, 19] (fun t _ _ _ _ wc => ∃ c : Nat, c ≤ l ∧ t = .int .i64 c ∧ Hid (∃ V, DataAt (wp.heap.size + 1) wc wp.heap.size k V (fun _ => c) D ∧ Ch (fun _ => False) wp wc ∧ wp.heap.size + 1 ≤ wc.heap.size)) (fun t _ _ _ _ _ => l - (intOf t).toNat)
      case atStart => exact ⟨0, Nat.zero_le _, rfl, H0⟩
      case round =>
        obtain ⟨c, hcl, rfl, HV⟩ := hrel
        obtain ⟨wc, rfl⟩ : ∃ wc : World, wc = wr := ⟨_, rfl⟩
        by_cases hlt2 : c < l
        · go_wp2
          go_loopw [16, 17] (fun v t wi => ∃ r : Nat, r ≤ k ∧ t = .int .i64 r ∧ Hid (Ch (fun _ => False) wc wi ∧ wi.ownsRow wc.heap.size /-t-/5 1 v r (bytesL r (fun r => X (wh L n r) c)))) (fun _ t _ => k - (intOf t).toNat)
          case atStart => exact ⟨0, Nat.zero_le _, rfl, Lib.hid ⟨Ch.refl _ _, World.ownsRow_nil _ _ _ _⟩⟩
          case round =>
            obtain ⟨r, hrk, rfl, HI⟩ := hrel
            by_cases hlt3 : r < k
            · obtain ⟨bx, ox, Dx, cy, cb⟩ := HOF.out r hlt3
              obtain ⟨V, _, hcv, _⟩ := HV.out
              have cy1 := (hcv.trans HI.out.1).cell cy (fun f => f)
              have cb1 := (hcv.trans HI.out.1).cell (cb c hlt2) (fun f => f)
              have HAP := Lib.hid (app_mk (x := .int .u8 (X (wh L n r) c : Int)) HI.out.2 HI.out.1.size rfl (by omega))
              have HM1 := Lib.hid (show (r + 1) * 1 ≤ 140737488355328 by omega)
              clear cy cb hcv
              go_wp2_with (at_builtin; refine wpList_append_lies _ rfl (.tmp 93) (.tmp 101) /-t-/33 rfl wc.heap.size /-t-/5 j0 (.int .u8 0) 1 1 Try.underlying33 gi gz0 gz1 gz2 rfl (by decide) u16 r (bytesL r (fun r => X (wh L n r) c)) rfl HAP.out.o ⟨wr.heap.size, 0, none⟩ 1 1 [.int .u8 (X (wh L n r) c : Int)] rfl rfl HAP.out.n HAP.out.c (by decide) HAP.out.m HM1.out HAP.out.b (wr.heap.size + 1) HAP.out.s ?_; intro gb capb w4 h1 h2 h3 h4)
              have hnext := row_more (z := fun r => X (wh L n r) c) HI.out.1 HI.out.2 (Nat.le_refl _) _ _ h1 h2
              have HN := Lib.hid (show Ch (fun _ => False) wc w4 ∧ w4.ownsRow wc.heap.size /-t-/5 1 (.slice (some ⟨gb, 0, none⟩) (r + 1) capb) (r + 1) (bytesL (r + 1) (fun r => X (wh L n r) c)) from ⟨hnext.2, hnext.1⟩)
              clear h1 h2 h3 h4 hnext
              go_wp2
              go_roundw
              case rel => exact ⟨r + 1, by omega, by go_num, HN⟩
              case measure => simp [intOf]; omega
            · have HRE := Lib.hid (show r = k by omega)
              obtain ⟨hci, hyo⟩ := HI.out
              rw [HRE.out] at hyo
              obtain ⟨g2, cap2, rfl, _, _⟩ := World.ownsRow.form hyo (by omega)
              obtain ⟨V, hdv, hcv, hvs⟩ := HV.out
              have HYO := Lib.hid (show ∀ i, i < k → wr.cell? ⟨g2, 0 + i, none⟩ = some (.int .u8 (X (wh L n i) c : Int)) from fun i hi => by rw [Nat.zero_add]; exact owns_byte hyo hi)
              have HMI := Lib.hid (HMX.out.gr (hcv.trans hci))
              have HDV := Lib.hid (hdv.ch hci)
              have HDB := Lib.hid (show ∀ r, r < k → ∀ b, (V r).ownBlock = some b → b < wr.heap.size from fun r hr b hb => Nat.lt_of_lt_of_le (World.ownsRow.lt (hdv.row r hr) b hb).2 hci.size)
              have HCV := Lib.hid (hcv.trans hci)
              have hvs2 : wp.heap.size + 1 ≤ wr.heap.size := Nat.le_trans hvs hci.size
              clear hci hyo hdv hcv hvs HI HV
              go_wp2_with fail
              refine (solved_any _ g2 0 k cap2 (rowsZ L n k) (fun r => X (wh L n r) c) (fun r => D r c) _ k1 (by omega) HMI.out (rowsZ_b _ _ _) (rows_left HKL.out n64 k2) HYO.out (fun i => HX.out _ _) (fun j => HDA.out.1 _ _) (fun r hr => HDA.out.2 r c hr (by rw [← HLL.out]; exact hlt2))).mono ?_
              rintro e w7 ⟨v8, rfl, hx8, hch7⟩
              obtain ⟨g8, cap8, rfl, hg8, hg8'⟩ := World.ownsRow.form hx8 (by omega)
              have HX8 := Lib.hid (show ∀ i, i < k → w7.cell? ⟨g8, i, none⟩ = some (.int .u8 (D i c : Int)) from fun i hi => owns_byte hx8 hi)
              have HG0 := Lib.hid (show GrowAt (wp.heap.size + 1) wp w7 w7 wp.heap.size g8 k c 0 D from ⟨V, (HDV.out.ch hch7).cnts fun r _ => by unfold cntZ; rw [if_neg (Nat.not_lt_zero _)], HCV.out.trans hch7, rfl, fun r hr e => by have := HDB.out r hr g8 e; omega, Nat.le_refl _⟩)
              have hs7 := hch7.size
              clear hx8 hch7 HDV HDB HMI HYO
              go_wp2
              go_loopw [19] (fun t wj => ∃ i : Nat, i ≤ k ∧ t = .int .i64 i ∧ Hid (GrowAt (wp.heap.size + 1) wp w7 wj wp.heap.size g8 k c i D)) (fun t _ => k - (intOf t).toNat)
              case atStart => exact ⟨0, Nat.zero_le _, rfl, HG0⟩
              case round =>
                obtain ⟨i, hik, rfl, HGA⟩ := hrel
                by_cases hlt4 : i < k
                · obtain ⟨V, hdv, hcv, h8, h8b, h8s⟩ := HGA.out
                  obtain ⟨Av, Cv, hV, _⟩ := form_len (hdv.row i hlt4)
                  obtain ⟨v', w', hst⟩ := hdv.step hlt4 (by unfold cntZ; split <;> omega) (by omega) hcv (Nat.le_refl _)
                  have e1 := (hdv.topAt hlt4).1
                  have e2 : wr.cell? ⟨g8, i, none⟩ = some (.int .u8 (D i c : Int)) := (World.cell?_of_block (a := ⟨g8, i, none⟩) h8).trans (HX8.out i hlt4)
                  have hci : cntZ c i i = c := by unfold cntZ; rw [if_neg (Nat.lt_irrefl _)]
                  obtain ⟨A', C', rfl⟩ := hst.form
                  rw [hci] at hV
                  have hrun := hst.run
                  rw [hci, hV] at hrun
                  have hbg := World.block_lt_of_cell? _ _ e1
                  have e1a : ∀ o, (wr.alloc o).cell? ⟨wp.heap.size, i, none⟩ = some (V i) := fun o => (World.cell?_of_block (a := ⟨wp.heap.size, i, none⟩) (Below.heap_alloc wr o wp.heap.size hbg)).trans e1
                  have e5 := hst.cell
                  rw [hV] at e1 e1a e5
                  have e6 := hst.frozen
                  have HRUN := Lib.hid hrun
                  have HN := Lib.hid (show GrowAt (wp.heap.size + 1) wp w7 (w'.setCell ⟨wp.heap.size, i, none⟩ (.slice A' (cntZ c i i + 1) C')) wp.heap.size g8 k c (i + 1) D from by
                    refine ⟨upF V i (.slice A' (cntZ c i i + 1) C'), hst.next.cnts fun r _ => cnt_next c i r, hst.ch, (hst.other g8 (by omega) (by omega) (h8b i hlt4)).trans h8, fun r hr e => ?_, ?_⟩
                    · unfold upF at e
                      by_cases q : r = i
                      · rw [if_pos q] at e
                        rcases hst.blk with b1 | b1
                        · exact h8b i hlt4 (by rw [← b1]; exact e)
                        · rw [b1] at e
                          injection e with e
                          omega
                      · rw [if_neg q] at e; exact h8b r hr e
                    · exact Nat.le_trans h8s hst.size)
                  rw [hci] at HN
                  clear hdv hcv h8 h8b h8s hst hrun hci HGA hV
                  go_wp2
                  go_region_law (refine step_bytes_of rfl (.tmp 116) (.tmp 121) rfl rfl (.slice Av c Cv) (.slice (some ⟨wr.heap.size, 0, none⟩) 1 1) (.slice A' (c + 1) C') w' (by simp [Act.eval]) (by simp [Act.eval]) HRUN.out ?_)
                  all_goals
                    go_wp2
                    go_roundw
                    case rel => exact ⟨i + 1, by omega, by go_num, HN⟩
                    case measure => simp [intOf]; omega
                · have HIE := Lib.hid (show i = k by omega)
                  have HN := Lib.hid (show ∃ V, DataAt (wp.heap.size + 1) wr wp.heap.size k V (fun _ => c + 1) D ∧ Ch (fun _ => False) wp wr ∧ wp.heap.size + 1 ≤ wr.heap.size from by
                    obtain ⟨V, h1, h2, h3, h4, h5⟩ := HGA.out
                    rw [HIE.out] at h1
                    exact ⟨V, h1.cnts fun r hr => by unfold cntZ; rw [if_pos hr], h2, by omega⟩)
                  go_wp2
                  go_roundw
                  case rel => exact ⟨c + 1, by omega, by go_num, HN⟩
                  case measure => simp [intOf]; omega
        · have HCE := Lib.hid (show c = l by omega)
          obtain ⟨V, hdv, hcv, hvs⟩ := HV.out
          have hbl := hdv.bld (base0 := wp.heap.size) (l := l) (fun r _ => HCE.out) HDA.out.1 (by omega) (by omega) (Nat.le_refl _)
          have HBL := Lib.hid hbl
          have HMD := Lib.hid (hbl.mat (by omega))
          have HCV := Lib.hid hcv
          have HMY := Lib.hid (may_const k1 (by omega : k ≤ 64) l1 l2)
          clear hdv hcv hvs hbl HV HMX HOF
          go_wp2_with fail
          rw [HSUB.out]
          refine (rencode_new _ k (n - k) (fun _ => l) D _ HMD.out HMY.out (by omega)).mono ?_
          rintro e w8 ⟨u, rfl, hB8, hch8⟩
          obtain ⟨v', w', hj⟩ := bld_join (BldL.ch HBL.out hch8) hB8 (Nat.le_trans HCV.out.size hch8.size) (by omega) (fun q hq => (BldL.block HBL.out hq).2) (Nat.zero_le _)
          have hchw := hj.ch ((HCP.out.trans HCV.out).trans hch8) (fun q hq => Nat.le_trans HCP.out.size (BldL.block HBL.out hq).1)
          have HJ := Lib.hid hj.1
          have HBJ := Lib.hid hj.2.1
          have HCW := Lib.hid hchw
          clear hB8 hch8 hj hchw
          go_wp2_with (at_builtin; refine wpList_rows_of _ rfl (.tmp 133) (.tmp 134) rfl rfl _ u v' w' rfl rfl HJ.out ?_)
          go_ret2
          exact Or.inr (Or.inr ⟨HFit.out, HKL.out, _, rfl, dec_mat HDA.out.1 k2 n64 HLL.out HBJ.out, HCW.out⟩)
#print axioms rdecode_any
end Go.Proofs.Ytlgdajmidcdiaaa
