/-
  del of a node, walked: by induction on how high it stands. A tree: grown, shrunk, looked up, how deep. The tree itself: Get, Len, Deep, Put, Del.
-/
import Derived.Test.YtkpahhioiefcbaaMb21
namespace Go.Proofs.Ytkpahhioiefcbaa
open Go.RowKit
set_option linter.unusedVariables false
set_option maxRecDepth 100000
set_option linter.unusedSimpArgs false

/-- What del answers. -/
def DelP (F : Nat → Prop) (h : Nat) (w : World) (k : ByteArray) (m : Nat) (L : List Kv) (e : Ending) (w' : World) : Prop :=
  ∃ nb m', e = .returned (.pointer (some ⟨nb, 0, none⟩)) ∧ TrIs (fun i => F i ∨ w.heap.size ≤ i) h w' (some nb) m' (delL L k) ∧ Ch (fun _ => False) w w' ∧ m' ≤ m ∧ m ≤ m' + 1
theorem gap_none {a b : List Kv} {k : ByteArray} (hr : Rise b) (ha : ∀ p ∈ a, kLt p.1 k = true) (h1 : ∀ p ∈ b, kLt p.1 k = false) (h2 : hereB b k = false) : getL (a ++ b) k = none :=
  getL_off fun y hy => (List.mem_append.1 hy).imp (ha y) (gap_above hr h1 h2 y)
theorem getL_last (X : List Kv) (x : Kv) (hr : Rise (X ++ [x])) : getL (X ++ [x]) x.1 = some x.2 := getL_here (here_parts hr).1 rfl
theorem delL_last (X : List Kv) (x : Kv) (hr : Rise (X ++ [x])) : delL (X ++ [x]) x.1 = X := by
  have := delL_here (Y := []) (here_parts hr).1 (fun y hy => by cases hy) rfl
  rw [List.append_nil] at this
  exact this
set_option maxHeartbeats 6400000 in
theorem del_step (h : Nat) (ih : 0 < h → ∀ (k : ByteArray) {F : Nat → Prop} {w : World} {b m : Nat} {L : List Kv}, TrIs F h w (some b) m L → Rise L → (getL L k).isSome = true → 1 ≤ m → m ≤ 7 → (∀ i, F i → i < w.heap.size) →
      Calls Try.prog 45 #[.pointer (some ⟨b, 0, none⟩), .string k] w (DelP F h w k m L))
    (k : ByteArray) {F : Nat → Prop} {w : World} {b m : Nat} {L : List Kv} (ht : TrIs F (h + 1) w (some b) m L) (hr : Rise L) (hg : (getL L k).isSome = true) (hm1 : 1 ≤ m) (hm : m ≤ 7) (hFb : ∀ i, F i → i < w.heap.size) :
    Calls Try.prog 45 #[.pointer (some ⟨b, 0, none⟩), .string k] w (DelP F (h + 1) w k m L) := by
  obtain ⟨b', ps, cs, eb, hnd, rfl, hk⟩ := ht
  injection eb with eb
  subst eb
  have hRp : Rise ps := by
    rcases hk with ⟨_, _, rfl⟩ | ⟨_, Ls, _, rfl, _⟩
    · exact hr
    · exact rise_pairs hr
  have HCO := Lib.hid (ncopied_any hnd)
  have HGS := Lib.hid hg
  have HM1 := Lib.hid hm1
  clear hg hm1
  go_enter Try.func45, Try.ntmps45
  go_wp2_with fail
  refine HCO.out.mono ?_
  rintro e w2 ⟨nb, vp, vc, rfl, hown, hc2⟩
  have HFI := Lib.hid (nfind_any k (hnd.ch hc2 fun _ _ f => f) hRp (by omega))
  have HK2 := Lib.hid hc2
  have HOWN := Lib.hid hown
  have HNDF := Lib.hid hnd
  have HKI := Lib.hid hk
  have HRR := Lib.hid (And.intro hr hRp)
  clear hown hnd hk hr hRp hc2 HCO
  go_wp2_with fail
  refine HFI.out.mono ?_
  rintro e w3 ⟨a, bb, e1, rfl, e2, e3, hc3⟩
  subst e1
  have HK3 := Lib.hid hc3
  have hown3 := HOWN.out.gr hc3
  have HOW3 := Lib.hid hown3
  obtain ⟨i, hi⟩ : ∃ i, i = a.length := ⟨_, rfl⟩
  rw [← hi]
  have HI := Lib.hid hi
  have i0 : (0 : Int) ≤ (i : Int) := Int.natCast_nonneg _
  have hab : a.length + bb.length ≤ 7 := by rw [List.length_append] at hm; exact hm
  have HAB := Lib.hid hab
  have HE := Lib.hid (And.intro e2 e3)
  have i9 : (i : Int) ≤ 7 := by omega
  have k3 := HK2.out.trans HK3.out
  have hnd3 := HNDF.out.ch k3 fun _ _ f => f
  clear hc3 HFI HOWN e2 e3 hi hm hab
  rcases Nat.eq_zero_or_pos h with h0 | h0
  · -- a leaf
    obtain ⟨rfl, rfl⟩ : cs = [] ∧ L = a ++ bb := by
      rcases HKI.out with ⟨_, e1, e2⟩ | ⟨e, _⟩
      · exact ⟨e1, e2⟩
      · omega
    obtain ⟨x, b2, rfl, hx⟩ := here_some (b := bb) (k := k) (by
      cases q : hereB bb k with
      | true => rfl
      | false =>
        have := gap_none (rise_app.1 HRR.out.2).2.1 HE.out.1 HE.out.2 q
        have h2 := HGS.out
        rw [this] at h2
        cases h2)
    have HCH := Lib.hid (nchild_any i hnd3 (Or.inl rfl))
    obtain ⟨Av, Cv, rfl⟩ := hown3.pr.len
    obtain ⟨n, hn⟩ : ∃ n, n = (a ++ x :: b2).length := ⟨_, rfl⟩
    rw [← hn] at hown3
    have p2 : w3.cell? ⟨nb, 0, none⟩ = some (.slice Av n Cv) := by rw [blk_cell hown3.blk]; rfl
    have hdel := delete_any w w3 _ a b2 x hown3.pr (by have := HAB.out; simp only [List.length_cons] at this; omega)
    rw [← HI.out] at hdel
    have HDEL := Lib.hid hdel
    have HO3 := Lib.hid hown3
    obtain ⟨l8, hl8⟩ : ∃ l8, l8 = (a ++ b2).length := ⟨_, rfl⟩
    have HL8 := Lib.hid hl8
    have hrr := here_parts HRR.out.1
    rw [hx] at hrr
    have HDE := Lib.hid (delL_here hrr.1 hrr.2 hx)
    obtain ⟨hh, hhh⟩ : ∃ hh, hh = hereB (x :: b2) k := ⟨_, rfl⟩
    rw [← hhh]
    clear hnd3 hown3 hdel hl8 k3 hrr hn hhh HOW3
    go_wp2_with fail
    refine HCH.out.mono ?_
    rintro e w4 ⟨rfl, rfl⟩
    have hcn : ptrV ([] : List Nat)[i]? = .pointer none := by simp [ptrV]
    rw [hcn]
    clear hcn
    go_wp2_with fail
    refine HDEL.out.mono ?_
    rintro e w5 ⟨v5, rfl, ho5, hk5, hb5⟩
    obtain ⟨A8, C8, rfl⟩ := ho5.lenL l8 HL8.out
    obtain ⟨hown9, hch9, s3, s4⟩ := HO3.out.newP ho5 hk5
    have kf : Ch (fun _ => False) w (w5.setCell ⟨nb, 0, none⟩ (.slice A8 l8 C8)) := (HK2.out.trans HK3.out).new (hch9.mono fun j _ hj => (HO3.out.at hj).1)
    have hfin : DelP F (h + 1) w k (a ++ x :: b2).length (a ++ x :: b2) (.returned (.pointer (some ⟨nb, 0, none⟩))) (w5.setCell ⟨nb, 0, none⟩ (.slice A8 l8 C8)) := by
      refine ⟨nb, (a ++ b2).length, rfl, ?_, kf, by simp only [List.length_append, List.length_cons]; omega, by simp only [List.length_append, List.length_cons]; omega⟩
      rw [HDE.out]
      exact own_tree (F := F) hown9 (by have := HAB.out; simp only [List.length_append, List.length_cons] at this ⊢; omega) (by simp) (fun j hj => Or.inr hj) (Or.inl ⟨h0, rfl, rfl⟩)
    have HFIN := Lib.hid hfin
    clear kf hfin hown9 hch9 ho5 hk5 hb5 p2
    go_wp2_with fail
    go_ret
    exact HFIN.out
  · -- a child
    obtain ⟨h', rfl⟩ : ∃ h', h = h' + 1 := ⟨h - 1, by omega⟩
    obtain ⟨cA, c, cB, LA, l, LB, mc, rfl, hla, hlb, rfl, c3, c7, hct, hA, hB'⟩ := kids_gap HKI.out h0
    have hcx : (cA ++ c :: cB)[i]? = some c := by rw [HI.out, hla, List.getElem?_append_right (Nat.le_refl _)]; simp
    have HCH := Lib.hid (nchild_any i hnd3 (Or.inr (by rw [HI.out, hla]; simp)))
    have HTA := Lib.hid (And.intro hA hB')
    have HK5 := Lib.hid k3
    obtain ⟨hh, hhh⟩ : ∃ hh, hh = hereB bb k := ⟨_, rfl⟩
    rw [← hhh]
    cases hh
    · have habv := gap_above (rise_app.1 HRR.out.2).2.1 HE.out.2 hhh.symm
      obtain ⟨gX, gY, gl⟩ := gap_parts HRR.out.1 HE.out.1 habv
      have HXX := Lib.hid (show fr a LA ++ (delL l k ++ bk bb LB) = delL (fr a LA ++ (l ++ bk bb LB)) k from (delL_mid gX gY).symm)
      have hgl : (getL l k).isSome = true := by have := HGS.out; rw [getL_mid gX gY] at this; exact this
      have HREC := Lib.hid (ih h0 k (hct.gr k3) gl hgl (by omega) c7 (fun j hj => Nat.lt_of_lt_of_le (hFb j hj) k3.size))
      have HO5 := HOW3
      have HBL := Lib.hid (show a.length = cA.length ∧ bb.length = cB.length ∧ a.length + bb.length ≤ 7 ∧ 1 ≤ a.length + bb.length ∧ 3 ≤ mc ∧ mc ≤ 7 ∧ (a ++ bb).length = a.length + bb.length by have := HM1.out; have := HAB.out; rw [List.length_append] at *; omega)
      clear habv gX gY gl hgl hown3 hnd3 k3 hA hB' hla hlb c3 c7 hct hhh HOW3
      go_wp2_with fail
      refine HCH.out.mono ?_
      rintro e w4 ⟨rfl, rfl⟩
      rw [hcx]
      clear hcx
      have hcn : ptrV (some c) = .pointer (some ⟨c, 0, none⟩) := rfl
      rw [hcn]
      clear hcn
      go_wp2_with fail
      refine HREC.out.mono ?_
      rintro e w6 ⟨cb, m', rfl, ht6, hc6, s1, s2⟩
      have hc16 := HK5.out.trans hc6
      have hO6 := HO5.out.gr hc6
      have hF2 : ∀ j, (F j ∨ (w4.heap.size ≤ j ∧ j < w6.heap.size)) → ¬ OwnS nb vp vc j := fun j hj hs => by
        have h1 := HO5.out.at hs
        rcases hj with q | q
        · have := hFb j q; omega
        · omega
      have hset := set_any (F := fun j => F j ∨ (w4.heap.size ≤ j ∧ j < w6.heap.size)) (h := h') hO6 HBL.out.1 (HTA.out.1.imp fun c l q => Kid.ch q hc16 (fun _ _ f => f) fun j hj => Or.inl hj) (HTA.out.2.imp fun c l q => Kid.ch q hc16 (fun _ _ f => f) fun j hj => Or.inl hj) HBL.out.2.1 (ht6.mono fun j hj hlt => hj.imp id fun q => ⟨q, hlt⟩) ⟨by have := HBL.out; omega, by have := HBL.out; omega⟩ (fun q => by have := HBL.out; omega) hF2 (fun j hj => by
        rcases hj with q | q
        · have := hFb j q; have := hc16.size; omega
        · exact q.2) (by have := HBL.out; omega) hc16.size
      rw [← HI.out] at hset
      have HSET := Lib.hid hset
      have H16 := Lib.hid hc16
      have HO6 := Lib.hid hO6
      have HSS := Lib.hid (And.intro s1 s2)
      clear hset hc16 hO6 hF2 ht6 hc6 s1 s2 HREC
      go_wp2_with fail
      refine HSET.out.mono ?_
      rintro e w7 hq
      obtain ⟨mm, rfl, htf, hcf, z1, z2, z3, z4⟩ := set_tree (G := fun j => F j ∨ w.heap.size ≤ j) hq (by have := HI.out; have := HBL.out; omega) (fun j hj => Or.inr hj) (fun j hj => hj.imp id fun q => Nat.le_trans HK5.out.size q.1) H16.out.size
      have kf : Ch (fun _ => False) w w7 := H16.out.new (hcf.mono fun j _ hj => (HO6.out.at hj).1)
      have hfin : DelP F (h' + 1 + 1) w k (a ++ bb).length (fr a LA ++ (l ++ bk bb LB)) (.returned (.pointer (some ⟨nb, 0, none⟩))) w7 := by
        refine ⟨nb, mm, rfl, ?_, kf, ?_, ?_⟩
        · rw [← HXX.out]; exact htf
        · have := z4 (by have := HBL.out; have := HSS.out; omega); have := HI.out; have := HBL.out; omega
        · have := HI.out; have := HBL.out; omega
      have HFIN := Lib.hid hfin
      clear htf hcf z1 z2 z3 z4 kf hfin hq HSET
      go_wp2_with fail
      go_ret
      exact HFIN.out
    · obtain ⟨x, b2, rfl, hx⟩ := here_some hhh.symm
      have hrr : Rise ((fr a LA ++ l) ++ x :: (LB.headD [] ++ bk b2 LB.tail)) := by have := HRR.out.1; rw [List.append_assoc]; exact this
      obtain ⟨gX, gY⟩ := here_parts hrr
      have gl : Rise l := (rise_app.1 (rise_app.1 hrr).1).2.1
      rw [hx] at gX gY
      have hlast := last_any (hct.gr k3.drew) (by omega : 1 ≤ mc) (by omega)
      obtain ⟨g, C, rfl, q1, q2, hput⟩ := own_pair hown3
      obtain ⟨n, hn⟩ : ∃ n, n = (a ++ x :: b2).length := ⟨_, rfl⟩
      have n0 : w3.cell? ⟨nb, 0, none⟩ = some (.slice (some ⟨g, 0, none⟩) n C) := by rw [blk_cell hown3.blk, hn]; rfl
      have i1 : (i : Int) < (n : Int) := by rw [hn, HI.out]; simp only [List.length_append, List.length_cons]; omega
      rw [← HI.out] at q1 q2
      have hne1 : g ≠ nb := (hown3.apart (show _ = some g from rfl)).1
      have hne2 : nb ≠ g := Ne.symm hne1
      have HLAST := Lib.hid hlast
      have HPP := Lib.hid (And.intro hct (And.intro gl (And.intro c3 c7)))
      have HQ := Lib.hid (And.intro q1 q2)
      have HGX := Lib.hid (And.intro gX (And.intro gY hx))
      have HBL := Lib.hid (show a.length = cA.length ∧ (x :: b2).length = cB.length ∧ a.length + (x :: b2).length ≤ 7 ∧ 1 ≤ a.length + (x :: b2).length ∧ 3 ≤ mc ∧ mc ≤ 7 ∧ (a ++ x :: b2).length = a.length + (x :: b2).length by have := HM1.out; have := HAB.out; rw [List.length_append] at *; omega)
      have HN := Lib.hid hn
      clear hrr gX gY gl hlast hown3 hnd3 k3 hA hB' hla hlb c3 c7 hct hhh hput q1 q2 hx hn
      go_wp2_with fail
      refine HCH.out.mono ?_
      rintro e w4 ⟨rfl, rfl⟩
      rw [hcx]
      clear hcx
      have hcn : ptrV (some c) = .pointer (some ⟨c, 0, none⟩) := rfl
      rw [hcn]
      clear hcn
      go_wp2_with fail
      go_region_held3 (fun w' => w'.cell? ⟨nb, 0, none⟩ = some (.slice (some ⟨g, 0, none⟩) n C)) (first | go_keep | exact ka)
        (first
          | (go_at_call 56; refine HLAST.out.mono ?_; rintro e w5 ⟨l0, y, el, rfl, hc5⟩
             have hc35 := (Ch.refl (fun _ => False) w4).drew.trans hc5
             have ka := hc35.cell n0 (fun f => f)
             have u0 := hc35.cell HQ.out.1.1 (fun f => f)
             have u1 := hc35.cell HQ.out.1.2 (fun f => f)
             have u2 : w5.frozen? ⟨g, i * 2, none⟩ = false := (hc35.below.frozen (p := ⟨g, i * 2, none⟩) (World.block_lt_of_cell? _ _ HQ.out.1.1)).trans HQ.out.2.1
             have u3 : w5.frozen? ⟨g, i * 2 + 1, none⟩ = false := (hc35.below.frozen (p := ⟨g, i * 2 + 1, none⟩) (World.block_lt_of_cell? _ _ HQ.out.1.2)).trans HQ.out.2.2))
      have ho5 := HOW3.out.gr hc35
      obtain ⟨g2, C2, eg, v1, v2, hput2⟩ := own_pair ho5
      injection eg with eg _ _
      injection eg with eg
      injection eg with eg _ _
      subst eg
      have ho6 := hput2 w5 y rfl
      rw [← HI.out] at ho6
      obtain ⟨w6, hw6⟩ : ∃ w6, w6 = (w5.setCell ⟨g, i * 2, none⟩ (.string y.1)).setCell ⟨g, i * 2 + 1, none⟩ (.string y.2) := ⟨_, rfl⟩
      have hgl : w.heap.size ≤ g := (HOW3.out.at (Or.inr (Or.inl rfl))).1
      have kf : Ch (fun _ => False) w w6 := by
        rw [hw6]
        exact ((HK5.out.trans hc35).setCell (p := ⟨g, i * 2, none⟩) (Or.inr hgl) _).setCell (p := ⟨g, i * 2 + 1, none⟩) (Or.inr hgl) _
      rw [← hw6] at ho6
      obtain ⟨g3, C3, eg, y1, y2, _⟩ := own_pair ho6
      injection eg with eg _ _
      injection eg with eg
      injection eg with eg _ _
      subst eg
      rw [← HI.out] at y1
      have y0 := y1.1
      have n6 : w6.cell? ⟨nb, 0, none⟩ = some (.slice (some ⟨g, 0, none⟩) n C) := by rw [blk_cell ho6.blk, HN.out]; rfl
      have HO5 := Lib.hid ho6
      have HK6 := HK5
      clear HK5
      have HK5 := Lib.hid kf
      have hgl0 := HPP.out.2.1
      rw [el] at hgl0
      have hXX : fr a LA ++ (delL l y.1 ++ bk (y :: b2) LB) = delL (fr a LA ++ (l ++ bk (x :: b2) LB)) k := by
        have e1 : delL l y.1 = l0 := by rw [el]; exact delL_last l0 y hgl0
        have e2 : fr a LA ++ (l ++ bk (x :: b2) LB) = (fr a LA ++ l) ++ x :: (LB.headD [] ++ bk b2 LB.tail) := by rw [List.append_assoc]; rfl
        rw [e1, e2, delL_here HGX.out.1 HGX.out.2.1 HGX.out.2.2, el]
        show fr a LA ++ (l0 ++ y :: (LB.headD [] ++ bk b2 LB.tail)) = _
        simp only [List.append_assoc, List.singleton_append]
      have HXX := Lib.hid hXX
      have HREC := Lib.hid (ih h0 y.1 (HPP.out.1.gr kf) HPP.out.2.1 (by rw [el, getL_last l0 y hgl0]; rfl) (by have := HPP.out; omega) HPP.out.2.2.2 (fun j hj => Nat.lt_of_lt_of_le (hFb j hj) kf.size))
      have HBL2 := Lib.hid (show a.length = cA.length ∧ (y :: b2).length = cB.length ∧ a.length + (y :: b2).length ≤ 7 ∧ 1 ≤ a.length + (y :: b2).length ∧ 3 ≤ mc ∧ mc ≤ 7 ∧ (a ++ x :: b2).length = a.length + (y :: b2).length from HBL.out)
      clear HBL
      have HBL := HBL2
      rw [← hw6]
      clear HBL2 hXX hgl0 kf hgl ho6 y1 y2 hw6 v1 v2 hput2 ho5 u0 u1 u2 u3 ka hc5 n0 HK6 HOW3 HQ
      obtain ⟨vp, hvp⟩ : ∃ vp, vp = Value.slice (some ⟨g, 0, none⟩) (a ++ x :: b2).length C := ⟨_, rfl⟩
      have HO5' : Hid (OwnN w w6 nb vp vc (a ++ y :: b2) (cA ++ c :: cB)) := Lib.hid (by rw [hvp]; exact HO5.out)
      clear HO5 hvp
      have HO5 := HO5'
      clear HO5'
      go_wp2_with fail
      refine HREC.out.mono ?_
      rintro e w7 ⟨cb, m', rfl, ht6, hc6, s1, s2⟩
      have hc16 := HK5.out.trans hc6
      have hO6 := HO5.out.gr hc6
      have hF2 : ∀ j, (F j ∨ (w6.heap.size ≤ j ∧ j < w7.heap.size)) → ¬ OwnS nb vp vc j := fun j hj hs => by
        have h1 := HO5.out.at hs
        rcases hj with q | q
        · have := hFb j q; omega
        · omega
      have hset := set_any (F := fun j => F j ∨ (w6.heap.size ≤ j ∧ j < w7.heap.size)) (h := h') hO6 HBL.out.1 (HTA.out.1.imp fun c l q => Kid.ch q hc16 (fun _ _ f => f) fun j hj => Or.inl hj) (HTA.out.2.imp fun c l q => Kid.ch q hc16 (fun _ _ f => f) fun j hj => Or.inl hj) HBL.out.2.1 (ht6.mono fun j hj hlt => hj.imp id fun q => ⟨q, hlt⟩) ⟨by have := HBL.out; omega, by have := HBL.out; omega⟩ (fun q => by have := HBL.out; omega) hF2 (fun j hj => by
        rcases hj with q | q
        · have := hFb j q; have := hc16.size; omega
        · exact q.2) (by have := HBL.out; omega) hc16.size
      rw [← HI.out] at hset
      have HSET := Lib.hid hset
      have H16 := Lib.hid hc16
      have HO6 := Lib.hid hO6
      have HSS := Lib.hid (And.intro s1 s2)
      clear hset hc16 hO6 hF2 ht6 hc6 s1 s2 HREC
      go_wp2_with fail
      refine HSET.out.mono ?_
      rintro e w8 hq
      obtain ⟨mm, rfl, htf, hcf, z1, z2, z3, z4⟩ := set_tree (G := fun j => F j ∨ w.heap.size ≤ j) hq (by have := HI.out; have := HBL.out; omega) (fun j hj => Or.inr hj) (fun j hj => hj.imp id fun q => Nat.le_trans HK5.out.size q.1) H16.out.size
      have kf : Ch (fun _ => False) w w8 := H16.out.new (hcf.mono fun j _ hj => (HO6.out.at hj).1)
      have hfin : DelP F (h' + 1 + 1) w k (a ++ x :: b2).length (fr a LA ++ (l ++ bk (x :: b2) LB)) (.returned (.pointer (some ⟨nb, 0, none⟩))) w8 := by
        refine ⟨nb, mm, rfl, ?_, kf, ?_, ?_⟩
        · rw [← HXX.out]; exact htf
        · have := z4 (by have := HBL.out; have := HSS.out; omega); have := HI.out; have := HBL.out; omega
        · have := HI.out; have := HBL.out; omega
      have HFIN := Lib.hid hfin
      clear htf hcf z1 z2 z3 z4 kf hfin hq HSET
      go_wp2_with fail
      go_ret
      exact HFIN.out
#print axioms del_step
theorem del_any : ∀ (h : Nat) (k : ByteArray) {F : Nat → Prop} {w : World} {b m : Nat} {L : List Kv}, TrIs F h w (some b) m L → Rise L → (getL L k).isSome = true → 1 ≤ m → m ≤ 7 → (∀ i, F i → i < w.heap.size) →
      Calls Try.prog 45 #[.pointer (some ⟨b, 0, none⟩), .string k] w (DelP F h w k m L)
  | 0, _, _, _, _, _, _, ht, _, _, _, _, _ => by cases ht.1
  | h + 1, k, _, _, _, _, _, ht, hr, hg, h1, hm, hF => del_step h (fun _ => del_any h) k ht hr hg h1 hm hF
#print axioms del_any
end Go.Proofs.Ytkpahhioiefcbaa
namespace Go.Proofs.Ytkpahhioiefcbaa
open Go.RowKit
set_option linter.unusedVariables false
set_option maxRecDepth 100000
set_option linter.unusedSimpArgs false

/-- What grown answers. -/
def GrP (F : Nat → Prop) (w : World) (L : List Kv) (e : Ending) (w' : World) : Prop := ∃ nb h m, e = .returned (.pointer (some ⟨nb, 0, none⟩)) ∧ TrIs (fun i => F i ∨ w.heap.size ≤ i) (h + 1) w' (some nb) m L ∧ 1 ≤ m ∧ m ≤ 7 ∧ Ch (fun _ => False) w w'
def GrP2 (F : Nat → Prop) (w : World) (nb : Nat) (L : List Kv) (e : Ending) (w' : World) : Prop := e = .returned (.tuple #[]) ∧ ∃ h m, TrIs (fun i => F i ∨ w.heap.size ≤ i) (h + 1) w' (some nb) m L ∧ (1 ≤ m ∧ m ≤ 7) ∧ Ch (fun _ => False) w w'
set_option maxHeartbeats 1600000 in
theorem grown_any {F : Nat → Prop} {w : World} {b m h : Nat} {L : List Kv} (ht : TrIs F (h + 1) w (some b) m L) (h1 : 1 ≤ m) (h8 : m ≤ 8) (hFb : ∀ i, F i → i < w.heap.size) : Calls Try.prog 48 #[.pointer (some ⟨b, 0, none⟩)] w (GrP F w L) := by
  have HT := Lib.hid ht
  obtain ⟨b', ps, cs, eb, hnd, em, hk⟩ := ht
  injection eb with eb
  subst eb
  obtain ⟨_, Aq, Cq, Ad, Cd, hbq, _, _⟩ := id hnd
  have c0 : w.cell? ⟨b, 0, none⟩ = some (.slice Aq m Cq) := by rw [blk_cell hbq, em]; rfl
  have HND := Lib.hid hnd
  have HKD := Lib.hid hk
  have HEM := Lib.hid em
  clear hbq hnd hk em
  by_cases h7 : m ≤ 7
  · have t1 : (m : Int) ≤ 7 := by omega
    have HFIN : Hid (GrP F w L (.returned (.pointer (some ⟨b, 0, none⟩))) w) := Lib.hid ⟨b, h, m, rfl, HT.out.mono fun i hi _ => Or.inl hi, h1, h7, Ch.refl _ _⟩
    clear h7 h1 h8
    go_enter Try.func48, Try.ntmps48
    go_wp2_with fail
    go_ret
    exact HFIN.out
  · have t1 : ¬ (m : Int) ≤ 7 := by omega
    have k1 := (Ch.refl (fun _ => False) w).alloc #[.pointer (some ⟨b, 0, none⟩)] 36
    have k2 := k1.alloc #[.slice none 0 0, .slice (some ⟨w.heap.size, 0, none⟩) 1 1] 89
    have hown : OwnN w ((w.alloc (.cells #[.pointer (some ⟨b, 0, none⟩)] 36)).alloc (.cells #[.slice none 0 0, .slice (some ⟨w.heap.size, 0, none⟩) 1 1] 89)) (w.heap.size + 1) (.slice none 0 0) (.slice (some ⟨w.heap.size, 0, none⟩) 1 1) ([] ++ []) ([] ++ b :: []) :=
      ⟨Nat.le_succ _, alloc2_new _ _ _, FlO.start kdPr w _, ⟨rfl, Or.inr ⟨w.heap.size, 1, #[.pointer (some ⟨b, 0, none⟩)], rfl, Nat.le_refl _, alloc2_old _ _ _, Nat.le_refl _, by unfold maxLen; omega, rfl, rfl⟩⟩⟩
    obtain ⟨q1, x, q2, d1, d2, m1, m2, m3, m4⟩ := mid_split ps cs (by have := HEM.out; omega) ((kids_len HKD.out).imp And.right And.right)
    have hq := congrArg List.length m1
    simp only [List.length_append, List.length_cons] at hq
    have hpl : ps.length = 8 := by have := HEM.out; omega
    have hF : ∀ i, F i → ¬ OwnS (w.heap.size + 1) (.slice none 0 0) (.slice (some ⟨w.heap.size, 0, none⟩) 1 1) i := fun i hi hs => by
      have h1 := (hown.at hs).1
      have h2 := hFb i hi
      omega
    have hnd2 := HND.out.ch k2 fun _ _ f => f
    have hkd2 : KidsP (TrIs F h ((w.alloc (.cells #[.pointer (some ⟨b, 0, none⟩)] 36)).alloc (.cells #[.slice none 0 0, .slice (some ⟨w.heap.size, 0, none⟩) 1 1] 89))) h ps cs L := HKD.out.imp fun p m l q => q.gr k2
    rw [m1, m2] at hnd2 hkd2
    have hsp := (split_any (F := F) hown hnd2 hF rfl (by simp) (by simp) (by omega) (by omega) (by omega) k2.size m4).mono (R' := GrP2 F w (w.heap.size + 1) L) fun e w' hs => by
      obtain ⟨vp', vc', lb, rb, rfl, ho, hg, n1, n2, hc⟩ := hs
      obtain ⟨L1, L2, rfl, g1, g2⟩ := kids_split hkd2 m4
      have kf : Ch (fun _ => False) w w' := k2.new (hc.mono fun i _ hi => (hown.at hi).1)
      have hG : ∀ p m l, TrIs F h ((w.alloc (.cells #[.pointer (some ⟨b, 0, none⟩)] 36)).alloc (.cells #[.slice none 0 0, .slice (some ⟨w.heap.size, 0, none⟩) 1 1] 89)) p m l → TrIs (fun i => F i ∨ w.heap.size ≤ i) h w' p m l := fun p m l q => (q.ch hc hF).mono fun i hi _ => Or.inl hi
      refine ⟨rfl, h + 1, 1, own_tree (F := F) ho (by simp) (by simp) (fun i hi => Or.inr hi) (Or.inr ⟨Nat.succ_pos _, [L1, L2], rfl, rfl, .cons ⟨q1.length, by omega, by omega, lb, q1, d1, rfl, n1.mono fun i hi _ => Or.inr (Nat.le_trans k2.size hi.1), rfl, g1.imp hG⟩ (.cons ⟨q2.length, by omega, by omega, rb, q2, d2, rfl, n2.mono fun i hi _ => Or.inr (Nat.le_trans k2.size hi.1), rfl, g2.imp hG⟩ .nil)⟩), ⟨Nat.le_refl _, by omega⟩, kf⟩
    have HSP := Lib.hid hsp
    clear h7 h1 h8 k1 k2 hown m1 m2 m3 m4 hq hpl hF hnd2 hkd2 hsp
    go_enter Try.func48, Try.ntmps48
    go_wp2_with fail
    refine Calls.mono (by exact HSP.out) ?_
    rintro e w' ⟨rfl, hh, mm, e1, ⟨z1, z2⟩, e2⟩
    have HFIN : Hid (GrP F w L (.returned (.pointer (some ⟨w.heap.size + 1, 0, none⟩))) w') := Lib.hid ⟨_, hh, mm, rfl, e1, z1, z2, e2⟩
    clear e1 e2 z1 z2
    go_wp2_with fail
    go_ret
    exact HFIN.out
#print axioms grown_any
/-- What shrunk answers. -/
def ShP (F : Nat → Prop) (w : World) (L : List Kv) (e : Ending) (w' : World) : Prop := ∃ p h' m', e = .returned (ptrV p) ∧ w' = w ∧ TrIs F h' w p m' L ∧ (0 < h' → 1 ≤ m' ∧ m' ≤ 7)
theorem shrunk_any {F : Nat → Prop} {w : World} {b m h : Nat} {L : List Kv} (ht : TrIs F (h + 1) w (some b) m L) (hm : m ≤ 7) : Calls Try.prog 46 #[.pointer (some ⟨b, 0, none⟩)] w (ShP F w L) := by
  have HT := Lib.hid ht
  obtain ⟨b', ps, cs, eb, hnd, em, hk⟩ := ht
  injection eb with eb
  subst eb
  obtain ⟨_, Aq, Cq, Ad, Cd, hbq, _, _⟩ := id hnd
  have c0 : w.cell? ⟨b, 0, none⟩ = some (.slice Aq m Cq) := by rw [blk_cell hbq, em]; rfl
  by_cases h0 : 0 < m
  · have t1 : (0 : Int) < (m : Int) := by omega
    have HFIN := Lib.hid (show ShP F w L (.returned (.pointer (some ⟨b, 0, none⟩))) w from ⟨some b, h + 1, m, rfl, rfl, HT.out, fun _ => ⟨h0, hm⟩⟩)
    clear hbq hnd hk em h0 hm
    go_enter Try.func46, Try.ntmps46
    go_wp2_with fail
    go_ret
    exact HFIN.out
  · have m0 : m = 0 := by omega
    have hps : ps = [] := List.eq_nil_of_length_eq_zero (by omega)
    subst hps
    subst m0
    have hch : Calls Try.prog 53 #[.pointer (some ⟨b, 0, none⟩), .int .i64 0] w fun e w' => e = .returned (ptrV cs[0]?) ∧ w' = w := nchild_any 0 hnd (by
      rcases kids_len hk with ⟨_, e⟩ | ⟨_, e⟩
      · exact Or.inl e
      · exact Or.inr (by omega))
    have hfin : ShP F w L (.returned (ptrV cs[0]?)) w := by
      rcases hk with ⟨e1, e2, e3⟩ | ⟨e1, Ls, e2, e3, e4⟩
      · exact ⟨none, 0, 0, by rw [e2]; rfl, rfl, ⟨rfl, rfl, e3⟩, fun f => absurd f (Nat.lt_irrefl 0)⟩
      · match cs, Ls, e2, e4, e3 with
        | [c], [l], _, .cons ⟨mc, c3, c7, hc⟩ .nil, e3 =>
          exact ⟨some c, h, mc, rfl, rfl, by rw [e3]; exact hc, fun _ => ⟨by omega, c7⟩⟩
        | _, [], e2, _, _ => simp at e2
        | _, _ :: _ :: _, e2, _, _ => simp at e2
    have HCH := Lib.hid hch
    have HFIN := Lib.hid hfin
    have c0 : w.cell? ⟨b, 0, none⟩ = some (.slice Aq 0 Cq) := c0
    clear hbq hnd hk em h0 hm hch hfin
    go_enter Try.func46, Try.ntmps46
    go_wp2_with fail
    refine HCH.out.mono ?_
    rintro e w' ⟨rfl, rfl⟩
    obtain ⟨v, hv⟩ : ∃ v, v = ptrV cs[0]? := ⟨_, rfl⟩
    rw [← hv]
    have HV := Lib.hid hv
    clear hv
    go_wp2_with fail
    go_ret
    have := HFIN.out
    rw [← HV.out] at this
    exact this
#print axioms shrunk_any
end Go.Proofs.Ytkpahhioiefcbaa
namespace Go.Proofs.Ytkpahhioiefcbaa
open Go.RowKit
set_option linter.unusedVariables false
set_option maxRecDepth 100000
set_option linter.unusedSimpArgs false

/-- A tree at t that has L. -/
def TreeIs (w : World) (t h : Nat) (L : List Kv) : Prop := ∃ F root m, w.heap[t]? = some (.cells #[ptrV root, .int .i64 (L.length : Int)] 38 (0, 0)) ∧ TrIs F h w root m L ∧ (0 < h → 1 ≤ m ∧ m ≤ 7) ∧ Rise L ∧ (∀ i, F i → i < w.heap.size ∧ i ≠ t) ∧ L.length ≤ 1000000
theorem TreeIs.gr {w w' : World} {t h : Nat} {L : List Kv} (k : TreeIs w t h L) (c : Ch (fun _ => False) w w') : TreeIs w' t h L := by
  obtain ⟨F, root, m, h1, h2, h3, h4, h5, h6⟩ := k
  exact ⟨F, root, m, (c.block t (blk_lt h1) (fun f => f)).trans h1, h2.gr c, h3, h4, fun i hi => ⟨Nat.lt_of_lt_of_le (h5 i hi).1 c.size, (h5 i hi).2⟩, h6⟩
theorem ttop_any {w : World} {t h : Nat} {root : Option Nat} {v : Value} (hb : w.heap[t]? = some (.cells #[ptrV root, v] 38 (0, 0))) : Calls Try.prog 42 #[.pointer (some ⟨t, 0, none⟩)] w fun e w' => e = .returned (ptrV root) ∧ w' = w := by
  cases root with
  | none =>
    have c0 : w.cell? ⟨t, 0, none⟩ = some (.pointer none) := by rw [blk_cell hb]; rfl
    clear hb
    go_enter Try.func42, Try.ntmps42
    go_wp2
    go_ret
    exact ⟨rfl, rfl⟩
  | some b =>
    have c0 : w.cell? ⟨t, 0, none⟩ = some (.pointer (some ⟨b, 0, none⟩)) := by rw [blk_cell hb]; rfl
    clear hb
    go_enter Try.func42, Try.ntmps42
    go_wp2
    go_ret
    exact ⟨rfl, rfl⟩
theorem tlen_any {w : World} {t h : Nat} {L : List Kv} (ht : TreeIs w t h L) : Calls Try.prog 20 #[.pointer (some ⟨t, 0, none⟩)] w fun e w' => e = .returned (.int .i64 (L.length : Int)) ∧ w' = w := by
  obtain ⟨F, root, m, hb, _⟩ := ht
  have c1 : w.cell? ⟨t, 1, none⟩ = some (.int .i64 (L.length : Int)) := by rw [blk_cell hb]; rfl
  clear hb
  go_enter Try.func20, Try.ntmps20
  go_wp2
  go_ret
  exact ⟨rfl, rfl⟩
#print axioms tlen_any
end Go.Proofs.Ytkpahhioiefcbaa
