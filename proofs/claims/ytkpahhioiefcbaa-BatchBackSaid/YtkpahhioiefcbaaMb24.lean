/-
  A node goes through what it has (from), walked. From, and the function tto range over that it gives.
-/
import Derived.Test.YtkpahhioiefcbaaMb23
namespace Go.Proofs.Ytkpahhioiefcbaa
open Go.RowKit
set_option linter.unusedVariables false
set_option maxRecDepth 100000
set_option linter.unusedSimpArgs false
attribute [local go_sem] Oper.semAt_some wide_fn wide_depth

theorem fromL_keep {p : Kv} {r : List Kv} {k : ByteArray} (h : kLt p.1 k = false) : fromL (p :: r) k = p :: fromL r k := by
  unfold fromL
  rw [List.filter_cons, h]
  rfl
/-- What stands ahead of child j. -/
def GJ (bb : List Kv) (B : List (List Kv)) (j : Nat) : List Kv := fr (bb.take j) (B.take j)
theorem GJ_zero (bb : List Kv) (B : List (List Kv)) : GJ bb B 0 = [] := rfl
theorem flat_cut {bb : List Kv} {B : List (List Kv)} (hB : B.length = bb.length + 1) {j : Nat} (hj : j < bb.length) : ∃ lj pj, B[j]? = some lj ∧ bb[j]? = some pj ∧ flat bb B = GJ bb B j ++ (lj ++ pj :: flat (bb.drop (j + 1)) (B.drop (j + 1))) ∧ GJ bb B (j + 1) = GJ bb B j ++ (lj ++ [pj]) := by
  have e1 : bb = bb.take j ++ bb[j] :: bb.drop (j + 1) := by rw [← List.drop_eq_getElem_cons hj, List.take_append_drop]
  have hj2 : j < B.length := by omega
  have e2 : B = B.take j ++ B[j] :: B.drop (j + 1) := by rw [← List.drop_eq_getElem_cons hj2, List.take_append_drop]
  have hl : (B.take j).length = (bb.take j).length := by rw [List.length_take, List.length_take]; omega
  refine ⟨B[j], bb[j], List.getElem?_eq_getElem hj2, List.getElem?_eq_getElem hj, ?_, ?_⟩
  · conv => lhs; rw [e1, e2]
    rw [flat_app hl]
    rfl
  · unfold GJ
    rw [List.take_add_one, List.take_add_one, List.getElem?_eq_getElem hj, List.getElem?_eq_getElem hj2]
    show fr (bb.take j ++ [bb[j]]) (B.take j ++ [B[j]]) = _
    rw [fr_app hl]
    simp [fr]
theorem flat_end {bb : List Kv} {B : List (List Kv)} (hB : B.length = bb.length + 1) : ∃ l, B[bb.length]? = some l ∧ flat bb B = GJ bb B bb.length ++ l := by
  obtain ⟨B1, r, e, h1⟩ := list_cut B bb.length (by omega)
  have hr : r.length = 1 := by have := congrArg List.length e; rw [List.length_append] at this; omega
  match r, hr with
  | [l], _ =>
    refine ⟨l, by rw [e, List.getElem?_append_right (by omega), h1]; simp, ?_⟩
    have h2 := flat_app (a := bb) (b := []) (B := [l]) h1
    rw [List.append_nil] at h2
    unfold GJ
    rw [List.take_length, e, h2, ← h1, List.take_left]
    rfl
/-- What a going through a node comes tto. -/
def FrP (T : List Kv) (J Jx : List Kv → World → Prop) (pre : List Kv) (L : List Kv) (k : ByteArray) (W : World) (e : Ending) (W' : World) : Prop :=
  (e = .returned (.bool true) ∧ J (pre ++ fromL L k) W' ∧ KpT W W') ∨ (e = .returned (.bool false) ∧ ∃ q, q <+: T ∧ Jx q W')
def FromAt (l : Nat) (k : ByteArray) (T : List Kv) (J Jx : List Kv → World → Prop) (h : Nat) : Prop := ∀ (p : Option Nat) (m : Nat) (L pre rest : List Kv) (W : World) (n : Nat), TrT h W p m L → Rise L → (0 < h → 1 ≤ m ∧ m ≤ 7) → pre ++ (fromL L k ++ rest) = T → J pre W →
  CallsIn Fence.wide n Try.prog 43 #[ptrV p, .string k, .func (.yield l) #[] #[]] W (FrP T J Jx pre L k W)
theorem from_zero (l : Nat) (k : ByteArray) (T : List Kv) (J Jx : List Kv → World → Prop) : FromAt l k T J Jx 0 := by
  rintro p m L pre rest W n ⟨rfl, _, rfl⟩ _ _ _ hJ
  refine callsIn_wide.2 ?_
  show Calls Try.prog 43 #[.pointer none, .string k, .func (.yield l) #[] #[]] W _
  have HFIN : Hid (FrP T J Jx pre [] k W (.returned (.bool true)) W) := Lib.hid (Or.inl ⟨rfl, by simp only [fromL, List.filter_nil, List.append_nil]; exact hJ, KpT.refl W⟩)
  clear hJ
  go_enter Try.func43, Try.ntmps43
  go_wp2
  go_ret
  exact HFIN.out
#print axioms from_zero
theorem NdAt.kp {W V : World} (k : KpT W V) {b : Nat} {ps : List Kv} {cs : List Nat} (q : NdAt (Typ W) W b ps cs) : NdAt (Typ V) V b ps cs :=
  (q.keep fun i hi => by
    obtain ⟨c, t, f, ht, hc⟩ := hi
    rw [hc, k i c t f ht hc]).mono fun i hi _ => by
    obtain ⟨c, t, f, ht, hc⟩ := hi
    exact ⟨c, t, f, ht, k i c t f ht hc⟩
set_option maxHeartbeats 6400000 in
theorem from_succ (l : Nat) (k : ByteArray) (T : List Kv) (J Jx : List Kv → World → Prop) (hJ : ∀ s W W', J s W → W.grownBy W' none → J s W')
    (hY : ∀ pre x V n, J pre V → pre.length < T.length → YieldAt Fence.wide n Try.prog l #[.string x.1, .string x.2] V fun e V' => (e = .returned (.bool true) ∧ J (pre ++ [x]) V' ∧ KpT V V') ∨ (e = .returned (.bool false) ∧ Jx (pre ++ [x]) V'))
    (h : Nat) (ih : FromAt l k T J Jx h) : FromAt l k T J Jx (h + 1) := by
  rintro p m L pre rest W n hT hr hm hTT hJ0
  obtain ⟨b, ps, cs, rfl, hnd, rfl, hk⟩ := hT
  have hm := hm (Nat.succ_pos _)
  have hRp : Rise ps := by
    rcases hk with ⟨_, _, rfl⟩ | ⟨_, Ls, _, rfl, _⟩
    · exact hr
    · exact rise_pairs hr
  obtain ⟨Ls, hLl, hLe, hLs⟩ := kids_view hk (fun e => by rw [e]; exact ⟨rfl, rfl, rfl⟩)
  have HFI := Lib.hid (nfind_any k hnd hRp (by omega))
  have HND := Lib.hid hnd
  have HLV := Lib.hid (And.intro hLl (And.intro hLe hLs))
  have HR := Lib.hid (And.intro hr hRp)
  have HTT := Lib.hid hTT
  have HJ0 := Lib.hid hJ0
  have HM := Lib.hid hm
  have HIH := Lib.hid ih
  have HYY := Lib.hid hY
  have HJJ := Lib.hid hJ
  clear hnd hk hm hRp hLl hLe hLs hr hTT hJ0 ih hY hJ
  show CallsIn Fence.wide n Try.prog 43 #[.pointer (some ⟨b, 0, none⟩), .string k, .func (.yield l) #[] #[]] W _
  refine callsIn_of_wp Try.func43 rfl trivial ?_ rfl
  simp only [Try.ntmps43, List.size_toArray, List.length_cons, List.length_nil, Nat.reduceAdd, Nat.reduceSub, Array.replicate_succ, Array.replicate_zero, List.push_toArray, List.append_toArray, List.nil_append, List.cons_append]
  gi_wp2
  refine (callsIn_wide.2 HFI.out).mono ?_
  rintro e w1 ⟨a, bb, e1, rfl, e2, e3, hc1⟩
  subst e1
  have hj1 := HJJ.out _ _ _ HJ0.out (grown_ch hc1)
  have HKW := Lib.hid (KpT.gr hc1)
  have HJ1 := Lib.hid hj1
  obtain ⟨_, Aq, Cq, Ad, Cd, hbq0, hrp, hrd⟩ := HND.out
  obtain ⟨i, hi⟩ : ∃ i, i = a.length := ⟨_, rfl⟩
  obtain ⟨n1, hn1⟩ : ∃ n1, n1 = (a ++ bb).length := ⟨_, rfl⟩
  obtain ⟨N, hN⟩ : ∃ N, N = bb.length := ⟨_, rfl⟩
  rw [← hi]
  rw [← hn1] at hbq0
  have hbV := fun (V : World) (hV : KpT W V) => hV b _ _ _ (Or.inr (Or.inl rfl)) hbq0
  have hbq := hbV _ HKW.out
  have HBV := Lib.hid hbV
  clear hbV hbq0
  have hab : n1 = i + N := by rw [hn1, List.length_append, hi, hN]
  have c0 : w1.cell? ⟨b, 0, none⟩ = some (.slice Aq n1 Cq) := by rw [blk_cell hbq]; rfl
  have hcap := hrp.v.cap
  rw [← hn1] at hcap
  have hm7 := HM.out.2
  have hm1 := HM.out.1
  rw [← hn1] at hm7 hm1
  have i0 : (0 : Int) ≤ (i : Int) := Int.natCast_nonneg _
  have i1 : (i : Int) ≤ (n1 : Int) := by omega
  have i2 : (n1 : Int) ≤ (Cq : Int) := by omega
  have i3 : (n1 : Int) ≤ 7 := by omega
  have N0 : (0 : Int) ≤ (N : Int) := Int.natCast_nonneg _
  -- the children and pairs from here on
  obtain ⟨A0, B, eB, hA0⟩ := list_cut Ls a.length (by have := HLV.out.1; rw [List.length_append] at this; omega)
  have hBl : B.length = bb.length + 1 := by have := HLV.out.1; rw [eB, List.length_append, List.length_append] at this; omega
  have hLx : L = fr a A0 ++ flat bb B := by rw [HLV.out.2.1, eB, flat_app hA0]
  have hrx := HR.out.1
  rw [hLx] at hrx
  have HFL : Hid (fromL L k = fromL (flat bb B) k) := Lib.hid (by rw [hLx, fromL_app, fromL_none (fr_below (rise_app.1 hrx).1 e2)]; rfl)
  have HFR := Lib.hid (rise_app.1 hrx).2.1
  have HB := Lib.hid (And.intro eB (And.intro hA0 hBl))
  have HN := Lib.hid (And.intro hi (And.intro hN hn1))
  have HE := Lib.hid (And.intro e2 e3)
  clear hLx hrx hc1 hj1 hbq hrd eB hA0 hBl hn1 hi hm7 e2 e3 HJ0 HFI
  obtain ⟨g, o, hAq, _⟩ := hrp.v.at' (by rw [← HN.out.2.2]; omega)
  subst hAq
  have hcell : ∀ V, KpT W V → ∀ (j : Nat) (x : Kv), bb[j]? = some x → V.cell? ⟨g, o + i * 2 + j * 2, none⟩ = some (.string x.1) ∧ V.cell? ⟨g, o + i * 2 + j * 2 + 1, none⟩ = some (.string x.2) := fun V hV j x hx => by
    have hrV : RowF (Typ W) kdPr V (some ⟨g, o, none⟩) Cq (a ++ bb) := hrp.keep kdPr_ok fun i hi => by
      obtain ⟨c, t, f, ht, hc⟩ := hi
      rw [hc, hV i c t f ht hc]
    have hxx : (a ++ bb)[i + j]? = some x := by rw [List.getElem?_append_right (by rw [HN.out.1]; omega), HN.out.1, show a.length + j - a.length = j by omega]; exact hx
    obtain ⟨g', o', hg, hc⟩ := hrV.v.at' (by rw [← HN.out.2.2]; have := (List.getElem?_eq_some_iff.1 hxx).1; rw [← HN.out.2.2] at this; omega)
    injection hg with hg
    injection hg with hg1 hg2 _
    subst hg1 hg2
    have z0 := hc (i + j) x hxx 0 _ rfl
    have z1 := hc (i + j) x hxx 1 _ rfl
    refine ⟨?_, ?_⟩
    · rw [show o + i * 2 + j * 2 = o + (i + j) * 2 + 0 by omega]
      exact z0
    · rw [show o + i * 2 + j * 2 + 1 = o + (i + j) * 2 + 1 by omega]
      exact z1
  have HCELL := Lib.hid hcell
  have hNi : n1 - i = N := by omega
  have HNI := Lib.hid hNi
  have i5 : (i : Int) + (N : Int) ≤ 7 := by omega
  clear hrp hcell hNi hab hN hm1 hcap
  by_cases hCi : Cq = i
  · have i4 : (Cq : Int) = (i : Int) := by omega
    have HN0 : Hid (N = 0) := Lib.hid (by have := HNI.out; omega)
    gi_wp2
    rw [HNI.out]
    gi_loopw [26] (fun x wr => ∃ j : Nat, j ≤ N ∧ x = .int .i64 (j : Int) ∧ Hid (J (pre ++ fromL (GJ bb B j) k) wr) ∧ Hid (KpT W wr)) (fun x _ => N - (intOf x).toNat)
    case atStart => exact ⟨0, Nat.zero_le _, rfl, Lib.hid (by rw [GJ_zero]; simp only [fromL, List.filter_nil, List.append_nil]; exact HJ1.out), HKW⟩
    case round =>
      clear HJ1 HKW
      obtain ⟨j, hj, rfl, HJ2, HK2⟩ := hrel
      have j0 : (0 : Int) ≤ (j : Int) := Int.natCast_nonneg _
      have j7 : (j : Int) ≤ 7 := by omega
      have hN0 : N = 0 := HN0.out
      have hjn : N = j := by omega
      subst hjn
      obtain ⟨lz, bz1, bz2⟩ := flat_end HB.out.2.2
      have hidx : Ls[n1]? = some lz := by rw [HB.out.1, HN.out.2.2, List.length_append, List.getElem?_append_right (by rw [HB.out.2.1]; omega), HB.out.2.1, show a.length + bb.length - a.length = bb.length by omega]; exact bz1
      obtain ⟨hcj, mj, hmj, htj⟩ := HLV.out.2.2 n1 lz hidx
      have hch := nchild_any n1 (HND.out.kp HK2.out) hcj
      have hTe : pre ++ fromL (GJ bb B N) k ++ (fromL lz k ++ rest) = T := by
        rw [← HTT.out, HFL.out, bz2, fromL_app, HN.out.2.1]
        simp only [List.append_assoc]
      have hrec := HIH.out cs[n1]? mj lz (pre ++ fromL (GJ bb B N) k) rest wr (n - 1) (TrT.kp HK2.out htj) (by
        have h1 := HFR.out
        rw [bz2] at h1
        exact (rise_app.1 h1).2.1) hmj hTe HJ2.out
      have hJe : pre ++ fromL (GJ bb B N) k ++ fromL lz k = pre ++ fromL L k := by
        rw [HFL.out, bz2, fromL_app, HN.out.2.1]
        simp only [List.append_assoc]
      have cz : wr.cell? ⟨b, 0, none⟩ = some (.slice (some ⟨g, o, none⟩) n1 Cq) := by rw [blk_cell (HBV.out wr HK2.out)]; rfl
      have HCH := Lib.hid hch
      have HREC := Lib.hid hrec
      have HJE := Lib.hid hJe
      clear hidx hcj hmj htj hch hrec hTe hJe bz1 bz2 HJ2
      gi_wp2
      refine (callsIn_wide.2 HCH.out).mono ?_
      rintro e w3 ⟨rfl, rfl⟩
      obtain ⟨vch, hvch⟩ : ∃ v, v = ptrV cs[n1]? := ⟨_, rfl⟩
      rw [← hvch]
      have HVC := Lib.hid hvch
      clear hvch HCH
      gi_wp2
      refine (show CallsIn _ _ _ _ _ _ _ by rw [HVC.out]; exact HREC.out).mono ?_
      rintro e w4 h4
      have HFIN : Hid (FrP T J Jx pre L k W e w4) := Lib.hid (by
        rcases h4 with ⟨q1, q2, q3⟩ | q
        · exact Or.inl ⟨q1, by rw [← HJE.out]; exact q2, HK2.out.trans q3⟩
        · exact Or.inr q)
      rcases h4 with ⟨rfl, _, _⟩ | ⟨rfl, _⟩
      · gi_wp2
        go_ret
        exact HFIN.out
      · gi_wp2
        go_ret
        exact HFIN.out
  · gi_wp2
    rw [HNI.out]
    gi_loopw [26] (fun x wr => ∃ j : Nat, j ≤ N ∧ x = .int .i64 (j : Int) ∧ Hid (J (pre ++ fromL (GJ bb B j) k) wr) ∧ Hid (KpT W wr)) (fun x _ => N - (intOf x).toNat)
    case atStart => exact ⟨0, Nat.zero_le _, rfl, Lib.hid (by rw [GJ_zero]; simp only [fromL, List.filter_nil, List.append_nil]; exact HJ1.out), HKW⟩
    case round =>
      clear HJ1 HKW
      obtain ⟨j, hj, rfl, HJ2, HK2⟩ := hrel
      have j0 : (0 : Int) ≤ (j : Int) := Int.natCast_nonneg _
      have j7 : (j : Int) ≤ 7 := by omega
      by_cases hlt : j < N
      · have j1 : (j : Int) < (N : Int) := by omega
        obtain ⟨lj, pj, bj1, bj2, bj3, bj4⟩ := flat_cut HB.out.2.2 (show j < bb.length by rw [← HN.out.2.1]; exact hlt)
        have hx := HCELL.out wr HK2.out j pj bj2
        obtain ⟨x0, x1⟩ := hx
        have HBJ := Lib.hid (And.intro bj1 (And.intro bj2 (And.intro bj3 bj4)))
        have HLT := Lib.hid hlt
        clear bj1 bj2 bj3 bj4 hlt
        gi_upto_region 7 with fail
        obtain ⟨w2, hw2⟩ : ∃ w2, w2 = wr.alloc (.cells #[.string pj.1, .string pj.2] 93) := ⟨_, rfl⟩
        obtain ⟨P, hP⟩ : ∃ P, P = wr.heap.size := ⟨_, rfl⟩
        have hc2 : Ch (fun _ => False) wr w2 := by rw [hw2]; exact (Ch.refl _ wr).alloc _ _
        have hbp : w2.heap[P]? = some (.cells #[.string pj.1, .string pj.2] 93 (0, 0)) := by rw [hw2, hP]; exact heap_alloc_new wr _
        have hk2 := HK2.out.trans (KpT.gr hc2)
        have hj2 := HJJ.out _ _ _ HJ2.out (grown_ch hc2)
        rw [← hw2, ← hP]
        have hidx : Ls[i + j]? = some lj := by rw [HB.out.1, List.getElem?_append_right (by rw [HB.out.2.1, HN.out.1]; omega), HB.out.2.1, HN.out.1, show a.length + j - a.length = j by omega]; exact HBJ.out.1
        obtain ⟨hcj, mj, hmj, htj⟩ := HLV.out.2.2 (i + j) lj hidx
        have hch := nchild_any (i + j) (HND.out.kp hk2) hcj
        rw [Int.natCast_add] at hch
        have hrec := HIH.out cs[i + j]? mj lj (pre ++ fromL (GJ bb B j) k) (pj :: (fromL (flat (bb.drop (j + 1)) (B.drop (j + 1))) k ++ rest)) w2 (n - 1) (TrT.kp hk2 htj) (by
          have h1 := HFR.out
          rw [HBJ.out.2.2.1] at h1
          exact (rise_app.1 (rise_app.1 h1).2.1).1) hmj (by
          rw [← HTT.out, HFL.out, HBJ.out.2.2.1, fromL_app, fromL_app, fromL_keep (HE.out.2 pj (List.mem_of_getElem? HBJ.out.2.1))]
          simp only [List.append_assoc, List.cons_append]) hj2
        have HCH := Lib.hid hch
        have HREC := Lib.hid hrec
        have HBP := Lib.hid hbp
        have HK3 := Lib.hid hk2
        clear hw2 hP hc2 hbp hk2 hj2 hidx hcj hmj htj hch hrec x0 x1 HK2 HJ2
        gi_wp2
        refine (callsIn_wide.2 HCH.out).mono ?_
        rintro e w3 ⟨rfl, rfl⟩
        obtain ⟨vch, hvch⟩ : ∃ v, v = ptrV cs[i + j]? := ⟨_, rfl⟩
        rw [← hvch]
        have HVC := Lib.hid hvch
        clear hvch HCH
        gi_wp2
        refine (show CallsIn _ _ _ _ _ _ _ by rw [HVC.out]; exact HREC.out).mono ?_
        rintro e w4 (⟨rfl, hJ4, hK4⟩ | ⟨rfl, q, hq1, hq2⟩)
        · have hbp4 := hK4 _ _ _ _ (Or.inl rfl) HBP.out
          have z0 : w4.cell? ⟨P, 0, none⟩ = some (.string pj.1) := by rw [blk_cell hbp4]; rfl
          have z1 : w4.cell? ⟨P, 1, none⟩ = some (.string pj.2) := by rw [blk_cell hbp4]; rfl
          have hTe : (pre ++ fromL (GJ bb B j) k ++ fromL lj k) ++ [pj] ++ (fromL (flat (bb.drop (j + 1)) (B.drop (j + 1))) k ++ rest) = T := by
            rw [← HTT.out, HFL.out, HBJ.out.2.2.1, fromL_app, fromL_app, fromL_keep (HE.out.2 pj (List.mem_of_getElem? HBJ.out.2.1))]
            simp only [List.append_assoc, List.cons_append, List.nil_append]
          obtain ⟨fn, tmps, assign, body, hy, hR⟩ := HYY.out _ pj w4 (n - 1) hJ4 (by
            have := congrArg List.length hTe
            simp only [List.length_append, List.length_cons, List.length_nil] at this ⊢
            omega)
          have HTE := Lib.hid hTe
          have HK5 := Lib.hid (HK3.out.trans hK4)
          clear hJ4 hK4 hbp4 hTe
          gi_wp2
          refine hR.mono ?_
          rintro e w5 (⟨rfl, hJ5, hK5⟩ | ⟨rfl, hJx5⟩)
          · have HJ6 := Lib.hid (show J (pre ++ fromL (GJ bb B (j + 1)) k) w5 by
              rw [HBJ.out.2.2.2, fromL_app, fromL_app, fromL_keep (HE.out.2 pj (List.mem_of_getElem? HBJ.out.2.1))]
              simp only [fromL, List.filter_nil, List.append_assoc] at hJ5 ⊢
              exact hJ5)
            have HK6 := Lib.hid (HK5.out.trans hK5)
            clear hJ5 hK5 hR z0 z1 hy
            gi_wp2
            go_roundw
            case rel => exact ⟨j + 1, HLT.out, by go_num, HJ6, HK6⟩
            case measure => have := HLT.out; simp [intOf]; omega
          · have HFIN : Hid (FrP T J Jx pre L k W (.returned (.bool false)) w5) := Lib.hid (Or.inr ⟨rfl, _, ⟨_, HTE.out⟩, hJx5⟩)
            clear hJx5 hR z0 z1 hy
            gi_wp2
            go_ret
            exact HFIN.out
        · have HFIN : Hid (FrP T J Jx pre L k W (.returned (.bool false)) w4) := Lib.hid (Or.inr ⟨rfl, q, hq1, hq2⟩)
          clear hq1 hq2
          gi_wp2
          go_ret
          exact HFIN.out
      · have hjn : N = j := by omega
        subst hjn
        obtain ⟨lz, bz1, bz2⟩ := flat_end HB.out.2.2
        have hidx : Ls[n1]? = some lz := by rw [HB.out.1, HN.out.2.2, List.length_append, List.getElem?_append_right (by rw [HB.out.2.1]; omega), HB.out.2.1, show a.length + bb.length - a.length = bb.length by omega]; exact bz1
        obtain ⟨hcj, mj, hmj, htj⟩ := HLV.out.2.2 n1 lz hidx
        have hch := nchild_any n1 (HND.out.kp HK2.out) hcj
        have hTe : pre ++ fromL (GJ bb B N) k ++ (fromL lz k ++ rest) = T := by
          rw [← HTT.out, HFL.out, bz2, fromL_app, HN.out.2.1]
          simp only [List.append_assoc]
        have hrec := HIH.out cs[n1]? mj lz (pre ++ fromL (GJ bb B N) k) rest wr (n - 1) (TrT.kp HK2.out htj) (by
          have h1 := HFR.out
          rw [bz2] at h1
          exact (rise_app.1 h1).2.1) hmj hTe HJ2.out
        have hJe : pre ++ fromL (GJ bb B N) k ++ fromL lz k = pre ++ fromL L k := by
          rw [HFL.out, bz2, fromL_app, HN.out.2.1]
          simp only [List.append_assoc]
        have cz : wr.cell? ⟨b, 0, none⟩ = some (.slice (some ⟨g, o, none⟩) n1 Cq) := by rw [blk_cell (HBV.out wr HK2.out)]; rfl
        have HCH := Lib.hid hch
        have HREC := Lib.hid hrec
        have HJE := Lib.hid hJe
        clear hidx hcj hmj htj hch hrec hTe hJe bz1 bz2 HJ2
        gi_wp2
        refine (callsIn_wide.2 HCH.out).mono ?_
        rintro e w3 ⟨rfl, rfl⟩
        obtain ⟨vch, hvch⟩ : ∃ v, v = ptrV cs[n1]? := ⟨_, rfl⟩
        rw [← hvch]
        have HVC := Lib.hid hvch
        clear hvch HCH
        gi_wp2
        refine (show CallsIn _ _ _ _ _ _ _ by rw [HVC.out]; exact HREC.out).mono ?_
        rintro e w4 h4
        have HFIN : Hid (FrP T J Jx pre L k W e w4) := Lib.hid (by
          rcases h4 with ⟨q1, q2, q3⟩ | q
          · exact Or.inl ⟨q1, by rw [← HJE.out]; exact q2, HK2.out.trans q3⟩
          · exact Or.inr q)
        rcases h4 with ⟨rfl, _, _⟩ | ⟨rfl, _⟩
        · gi_wp2
          go_ret
          exact HFIN.out
        · gi_wp2
          go_ret
          exact HFIN.out

end Go.Proofs.Ytkpahhioiefcbaa
namespace Go.Proofs.Ytkpahhioiefcbaa
open Go.RowKit
set_option linter.unusedVariables false
set_option maxRecDepth 100000
set_option linter.unusedSimpArgs false
attribute [local go_sem] Oper.semAt_some wide_fn wide_depth

theorem from_any (l : Nat) (k : ByteArray) (T : List Kv) (J Jx : List Kv → World → Prop) (hJ : ∀ s W W', J s W → W.grownBy W' none → J s W')
    (hY : ∀ pre x V n, J pre V → pre.length < T.length → YieldAt Fence.wide n Try.prog l #[.string x.1, .string x.2] V fun e V' => (e = .returned (.bool true) ∧ J (pre ++ [x]) V' ∧ KpT V V') ∨ (e = .returned (.bool false) ∧ Jx (pre ++ [x]) V')) : ∀ h, FromAt l k T J Jx h
  | 0 => from_zero l k T J Jx
  | h + 1 => from_succ l k T J Jx hJ hY h (from_any l k T J Jx hJ hY h)
/-- A tree that may be none. -/
def TreeO (w : World) : Option Nat → Nat → List Kv → Prop
  | none, h, L => h = 0 ∧ L = []
  | some t, h, L => TreeIs w t h L
theorem TreeO.gr {w w' : World} {h : Nat} {L : List Kv} : ∀ {o : Option Nat}, TreeO w o h L → Ch (fun _ => False) w w' → TreeO w' o h L
  | none, q, _ => q
  | some _, q, c => TreeIs.gr q c
theorem ttop_none (w : World) : Calls Try.prog 42 #[.pointer none] w fun e w' => e = .returned (.pointer none) ∧ w' = w := by
  go_enter Try.func42, Try.ntmps42
  go_wp2
  go_ret
  exact ⟨rfl, rfl⟩
theorem TreeO.top {w : World} {h : Nat} {L : List Kv} {o : Option Nat} (q : TreeO w o h L) : Rise L ∧ ∃ root m, Calls Try.prog 42 #[ptrV o] w (fun e w' => e = .returned (ptrV root) ∧ w' = w) ∧ TrT h w root m L ∧ (0 < h → 1 ≤ m ∧ m ≤ 7) := by
  cases o with
  | none =>
    obtain ⟨rfl, rfl⟩ := q
    exact ⟨List.Pairwise.nil, none, 0, ttop_none w, ⟨rfl, rfl, rfl⟩, fun f => absurd f (Nat.lt_irrefl 0)⟩
  | some t =>
    obtain ⟨F, root, m, hb, hT, hm, hr, _⟩ := q
    exact ⟨hr, root, m, ttop_any (h := h) hb, hT.typ, hm⟩
theorem neq_yield (l : Nat) (w : World) : (binOp .neq 63 (.func (.yield l) #[] #[]) .nilFunc).run Try.prog w = .ok (.bool true) w := by
  obtain ⟨a, b, c, hu⟩ : ∃ a b c, Try.prog.underlying 63 = some (.func a b c) := ⟨_, _, _, Try.underlying63⟩
  have hg : ∀ n, (Op.equalIn (n + 1) 63 (.func (.yield l) #[] #[]) .nilFunc).run Try.prog w = .ok false w := fun n => by simp [Op.equalIn, run_underlying hu]
  have hm : (Op.equalIn Op.maxDepth 63 (.func (.yield l) #[] #[]) .nilFunc).run Try.prog w = .ok false w := hg 9999
  simp [binOp, Op.equal, hm]
def encK (x : Kv) : Array Value := #[.string x.1, .string x.2]
def frF (Bt Bk : Nat) : Value := .func (.func 41) #[] #[.pointer (some ⟨Bt, 0, none⟩), .pointer (some ⟨Bk, 0, none⟩)]
theorem tfrom_any (o : Option Nat) (k : ByteArray) (w : World) : Calls Try.prog 28 #[ptrV o, .string k] w fun e w' => ∃ Bt Bk, e = .returned (frF Bt Bk) ∧ w'.heap[Bt]? = some (.cells #[ptrV o] 29 (0, 0)) ∧ w'.heap[Bk]? = some (.cells #[.string k] 9 (0, 0)) ∧ w.heap.size ≤ Bt ∧ w.heap.size ≤ Bk ∧ Ch (fun _ => False) w w' := by
  cases o with
  | none =>
    have e1 : (w.alloc (.cells #[(.pointer none)] 29)).heap.size = w.heap.size + 1 := by simp
    have h1 : (w.alloc (.cells #[(.pointer none)] 29)).heap[w.heap.size]? = some (.cells #[(.pointer none)] 29 (0, 0)) := heap_alloc_new _ _
    have h2 : ((w.alloc (.cells #[(.pointer none)] 29)).alloc (.cells #[.string k] 9)).heap[w.heap.size + 1]? = some (.cells #[.string k] 9 (0, 0)) := by rw [← e1]; exact heap_alloc_new _ _
    have c1 := (Ch.refl (fun _ => False) (w.alloc (.cells #[(.pointer none)] 29))).alloc #[.string k] 9
    have HB : Hid (((w.alloc (.cells #[(.pointer none)] 29)).alloc (.cells #[.string k] 9)).heap[w.heap.size]? = some (.cells #[(.pointer none)] 29 (0, 0)) ∧ ((w.alloc (.cells #[(.pointer none)] 29)).alloc (.cells #[.string k] 9)).heap[w.heap.size + 1]? = some (.cells #[.string k] 9 (0, 0)) ∧ Ch (fun _ => False) w ((w.alloc (.cells #[(.pointer none)] 29)).alloc (.cells #[.string k] 9))) :=
      Lib.hid ⟨(c1.block _ (blk_lt h1) (fun f => f)).trans h1, h2, ((Ch.refl _ w).alloc _ _).trans c1⟩
    clear e1 h1 h2 c1
    show Calls Try.prog 28 #[(.pointer none), .string k] w _
    go_enter Try.func28, Try.ntmps28
    go_wp2
    go_ret
    exact ⟨w.heap.size, w.heap.size + 1, rfl, HB.out.1, HB.out.2.1, Nat.le_refl _, Nat.le_succ _, HB.out.2.2⟩
  | some t =>
    have e1 : (w.alloc (.cells #[(.pointer (some ⟨t, 0, none⟩))] 29)).heap.size = w.heap.size + 1 := by simp
    have h1 : (w.alloc (.cells #[(.pointer (some ⟨t, 0, none⟩))] 29)).heap[w.heap.size]? = some (.cells #[(.pointer (some ⟨t, 0, none⟩))] 29 (0, 0)) := heap_alloc_new _ _
    have h2 : ((w.alloc (.cells #[(.pointer (some ⟨t, 0, none⟩))] 29)).alloc (.cells #[.string k] 9)).heap[w.heap.size + 1]? = some (.cells #[.string k] 9 (0, 0)) := by rw [← e1]; exact heap_alloc_new _ _
    have c1 := (Ch.refl (fun _ => False) (w.alloc (.cells #[(.pointer (some ⟨t, 0, none⟩))] 29))).alloc #[.string k] 9
    have HB : Hid (((w.alloc (.cells #[(.pointer (some ⟨t, 0, none⟩))] 29)).alloc (.cells #[.string k] 9)).heap[w.heap.size]? = some (.cells #[(.pointer (some ⟨t, 0, none⟩))] 29 (0, 0)) ∧ ((w.alloc (.cells #[(.pointer (some ⟨t, 0, none⟩))] 29)).alloc (.cells #[.string k] 9)).heap[w.heap.size + 1]? = some (.cells #[.string k] 9 (0, 0)) ∧ Ch (fun _ => False) w ((w.alloc (.cells #[(.pointer (some ⟨t, 0, none⟩))] 29)).alloc (.cells #[.string k] 9))) :=
      Lib.hid ⟨(c1.block _ (blk_lt h1) (fun f => f)).trans h1, h2, ((Ch.refl _ w).alloc _ _).trans c1⟩
    clear e1 h1 h2 c1
    show Calls Try.prog 28 #[(.pointer (some ⟨t, 0, none⟩)), .string k] w _
    go_enter Try.func28, Try.ntmps28
    go_wp2
    go_ret
    exact ⟨w.heap.size, w.heap.size + 1, rfl, HB.out.1, HB.out.2.1, Nat.le_refl _, Nat.le_succ _, HB.out.2.2⟩
#print axioms tfrom_any
set_option maxHeartbeats 3200000 in
theorem from1_in (n l Bt Bk h : Nat) (o : Option Nat) (L : List Kv) (k : ByteArray) (J Jx : List Kv → World → Prop) (W : World) (hJ : AbidesFrom W.heap.size J)
    (hY : ∀ pre x W1, J pre W1 → pre.length < (fromL L k).length → YieldAt Fence.wide (n - 1) Try.prog l (encK x) W1 fun e W' =>
      (e = .returned (.bool true) ∧ J (pre ++ [x]) W' ∧ KpT W1 W') ∨ (e = .returned (.bool false) ∧ Jx (pre ++ [x]) W'))
    (ht : TreeO W o h L) (hBt : W.heap[Bt]? = some (.cells #[ptrV o] 29 (0, 0))) (hBk : W.heap[Bk]? = some (.cells #[.string k] 9 (0, 0))) (h0 : J [] W) :
    CallsIn Fence.wide n Try.prog 41 #[.func (.yield l) #[] #[], .pointer (some ⟨Bt, 0, none⟩), .pointer (some ⟨Bk, 0, none⟩)] W fun e W' => (∃ v, e = .returned v) ∧
      ((∃ ys : List Kv, ys = fromL L k ∧ J ys W') ∨ (∃ pre : List Kv, pre <+: fromL L k ∧ Jx pre W')) := by
  have kd : Ch (fun _ => False) W W.drew := (Ch.refl _ W).drew
  obtain ⟨hr, root, m, hC, hT, hm⟩ := (ht.gr kd).top
  have hJ' : ∀ s W1 W2, J s W1 → W1.grownBy W2 none → J s W2 := fun s W1 W2 q g => hJ s W1 W2 none q g (fun _ e => by cases e)
  have hF := from_any l k (fromL L k) J Jx hJ' (fun pre x V m q hl => yieldAt_n (hY pre x V q hl)) h root m L [] [] W.drew n hT hr hm (by simp) (hJ' _ _ _ h0 (grown_ch kd))
  obtain ⟨v, hv⟩ : ∃ v, v = ptrV o := ⟨_, rfl⟩
  rw [← hv] at hBt hC
  obtain ⟨v2, hv2⟩ : ∃ v2, v2 = ptrV root := ⟨_, rfl⟩
  rw [← hv2] at hF hC
  have b1 : W.cell? ⟨Bt, 0, none⟩ = some v := blk_cell hBt
  have b2 : W.cell? ⟨Bk, 0, none⟩ = some (.string k) := blk_cell hBk
  have hF2 := (callsIn_wide.1 hF).mono (R' := fun e W' => ∃ bv, e = .returned bv ∧ Hid (((∃ ys : List Kv, ys = fromL L k ∧ J ys W') ∨ (∃ pre : List Kv, pre <+: fromL L k ∧ Jx pre W')))) (by
    rintro e W' (⟨rfl, q, _⟩ | ⟨rfl, q⟩)
    · exact ⟨_, rfl, Lib.hid (Or.inl ⟨_, rfl, q⟩)⟩
    · exact ⟨_, rfl, Lib.hid (Or.inr q)⟩)
  have HF := Lib.hid hF2
  have HC := Lib.hid hC
  have hne := neq_yield l W
  clear hF hF2 hC hT hm hr hJ' hJ hY ht h0 hBt hBk hv hv2 kd
  refine callsIn_of_wp Try.func41 rfl trivial ?_ rfl
  simp only [Try.ntmps41, List.size_toArray, List.length_cons, List.length_nil, Nat.reduceAdd, Nat.reduceSub, Array.replicate_succ, Array.replicate_zero, List.push_toArray, List.append_toArray, List.nil_append, List.cons_append]
  gi_upto_region 1 with fail
  refine wpIn_wide.2 ?_
  go_region_with (first
    | (refine HC.out.mono ?_; rintro e w1 ⟨rfl, rfl⟩)
    | (refine HF.out.mono ?_; rintro e w2 ⟨bv, rfl, HFIN⟩)
    | fail)
  all_goals
    go_end0
    exact ⟨⟨_, rfl⟩, HFIN.out⟩
#print axioms from1_in
end Go.Proofs.Ytkpahhioiefcbaa
