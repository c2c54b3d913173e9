/-
  put of a node, walked: by induction on how high it stands. The last pair of a tree; how deep it is, and what is in it, looked up.
-/
import Derived.Test.YtkpahhioiefcbaaMb20
namespace Go.Proofs.Ytkpahhioiefcbaa
open Go.RowKit
set_option linter.unusedVariables false
set_option maxRecDepth 100000
set_option linter.unusedSimpArgs false

section
variable {P : Option Nat → Nat → List Kv → Prop} {h : Nat}
/-- A pair of a node, among all. -/
theorem kids_here {a b : List Kv} {x : Kv} {cs : List Nat} {L : List Kv} (k : KidsP P h (a ++ x :: b) cs L) : ∃ X Y, L = X ++ x :: Y ∧ ∀ z, KidsP P h (a ++ z :: b) cs (X ++ z :: Y) := by
  rcases k with ⟨h0, h1, h2⟩ | ⟨h0, Ls, h1, h2, h3⟩
  · exact ⟨a, b, h2, fun z => Or.inl ⟨h0, h1, rfl⟩⟩
  · have hl : (a ++ x :: b).length = a.length + b.length + 1 := by simp only [List.length_append, List.length_cons]; omega
    obtain ⟨A, r, e1, e2⟩ := list_cut Ls a.length (by omega)
    cases r with
    | nil => have := congrArg List.length e1; rw [List.append_nil] at this; omega
    | cons l B =>
      have key : ∀ z, flat (a ++ z :: b) Ls = (fr a A ++ l) ++ z :: (B.headD [] ++ bk b B.tail) := fun z => by
        rw [e1, flat_at _ e2, List.append_assoc]
        rfl
      refine ⟨_, _, h2.trans (key x), fun z => Or.inr ⟨h0, Ls, ?_, (key z).symm, h3⟩⟩
      simp only [List.length_append, List.length_cons] at h1 ⊢
      omega
/-- A child of a node, among all. -/
theorem kids_gap {a b : List Kv} {cs : List Nat} {L : List Kv} (k : KidsP P h (a ++ b) cs L) (h0 : 0 < h) : ∃ cA c cB LA l LB m, cs = cA ++ c :: cB ∧ a.length = cA.length ∧ b.length = cB.length ∧ L = fr a LA ++ (l ++ bk b LB) ∧ 3 ≤ m ∧ m ≤ 7 ∧ P (some c) m l ∧ All2 (fun c l => ∃ m, 3 ≤ m ∧ m ≤ 7 ∧ P (some c) m l) cA LA ∧ All2 (fun c l => ∃ m, 3 ≤ m ∧ m ≤ 7 ∧ P (some c) m l) cB LB := by
  rcases k with ⟨h0', _⟩ | ⟨_, Ls, h1, h2, h3⟩
  · omega
  · have hl := h3.len
    rw [List.length_append] at h1
    obtain ⟨cA, c, cB, LA, l, LB, e1, e2, e3, e4, hA, ⟨m, m1, m2, m3⟩, hB⟩ := h3.split a.length (by omega)
    have g1 := congrArg List.length e1
    simp only [List.length_append, List.length_cons] at g1
    exact ⟨cA, c, cB, LA, l, LB, m, e1, e3.symm, by omega, by rw [h2, e2, flat_at _ e4], m1, m2, m3, hA, hB⟩
end
theorem gap_above {b : List Kv} {k : ByteArray} (hr : Rise b) (h1 : ∀ p ∈ b, kLt p.1 k = false) (h2 : hereB b k = false) : ∀ p ∈ b, kLt k p.1 = true := by
  cases b with
  | nil => intro p hp; cases hp
  | cons x b =>
    have hx : kLt k x.1 = true := kLt_of (Ne.symm (kEq_no.1 h2)) (h1 x (List.mem_cons_self ..))
    intro p hp
    rcases List.mem_cons.1 hp with rfl | hp
    · exact hx
    · exact kLt_trans hx ((rise_cons.1 hr).1 p hp)
theorem here_some {b : List Kv} {k : ByteArray} (h : hereB b k = true) : ∃ x b2, b = x :: b2 ∧ x.1 = k := by
  cases b with
  | nil => cases h
  | cons x b => exact ⟨x, b, rfl, kEq_iff.1 h⟩
/-- The node's part of a list that is parted at a key. -/
theorem gap_parts {a b l : List Kv} {LA LB : List (List Kv)} {k : ByteArray} (hr : Rise (fr a LA ++ (l ++ bk b LB))) (ha : ∀ p ∈ a, kLt p.1 k = true) (hb : ∀ p ∈ b, kLt k p.1 = true) : (∀ x ∈ fr a LA, kLt x.1 k = true) ∧ (∀ x ∈ bk b LB, kLt k x.1 = true) ∧ Rise l := by
  obtain ⟨h1, h2, _⟩ := rise_app.1 hr
  obtain ⟨h3, h4, _⟩ := rise_app.1 h2
  exact ⟨fr_below h1 ha, bk_above h4 hb, h3⟩
theorem here_parts {X Y : List Kv} {x : Kv} (hr : Rise (X ++ x :: Y)) : (∀ y ∈ X, kLt y.1 x.1 = true) ∧ ∀ y ∈ Y, kLt x.1 y.1 = true := by
  obtain ⟨_, h2, h3⟩ := rise_app.1 hr
  exact ⟨fun y hy => h3 y hy x (List.mem_cons_self ..), (rise_cons.1 h2).1⟩
/-- A pair is written over. -/
theorem own_pair {w0 w : World} {nb : Nat} {vp vc : Value} {A B : List Kv} {x : Kv} {cs : List Nat} (h : OwnN w0 w nb vp vc (A ++ x :: B) cs) : ∃ g C, vp = .slice (some ⟨g, 0, none⟩) (A ++ x :: B).length C ∧
    (w.cell? ⟨g, A.length * 2, none⟩ = some (.string x.1) ∧ w.cell? ⟨g, A.length * 2 + 1, none⟩ = some (.string x.2)) ∧ (w.frozen? ⟨g, A.length * 2, none⟩ = false ∧ w.frozen? ⟨g, A.length * 2 + 1, none⟩ = false) ∧
    ∀ (W : World) (z : Kv), W.heap = w.heap → OwnN w0 ((W.setCell ⟨g, A.length * 2, none⟩ (.string z.1)).setCell ⟨g, A.length * 2 + 1, none⟩ (.string z.2)) nb vp vc (A ++ z :: B) cs := by
  rcases h.pr.parts kdPr_ok with ⟨_, e⟩ | ⟨g, cap, R, rfl, hg⟩
  · simp at e
  have hA := flC_len kdPr_ok A
  rw [show kdPr.k = 2 from rfl] at hA
  have ec : ∀ z : Kv, flC kdPr (A ++ z :: B) ++ R = flC kdPr A ++ (.string z.1 :: .string z.2 :: (flC kdPr B ++ R)) := fun z => by rw [flC_app, List.append_assoc]; rfl
  have hl : ∀ z : Kv, (A ++ z :: B).length = (A ++ x :: B).length := fun z => by simp
  have g0 : (flC kdPr (A ++ x :: B) ++ R)[A.length * 2]? = some (.string x.1) := by rw [ec, ← hA, List.getElem?_append_right (Nat.le_refl _)]; simp
  have g1 : (flC kdPr (A ++ x :: B) ++ R)[A.length * 2 + 1]? = some (.string x.2) := by rw [ec, ← hA, List.getElem?_append_right (by omega)]; simp
  refine ⟨g, cap, rfl, ⟨by rw [blk_cell hg.blk, List.getElem?_toArray, g0], by rw [blk_cell hg.blk, List.getElem?_toArray, g1]⟩, ⟨blk_frozen hg.blk, blk_frozen hg.blk⟩, fun W z hW => ?_⟩
  have hbW := blk_heap hW hg.blk
  have k := ((Ch.refl (fun i => i = g) W).setCell (p := ⟨g, A.length * 2, none⟩) (Or.inl rfl) (.string z.1)).setCell (p := ⟨g, A.length * 2 + 1, none⟩) (Or.inl rfl) (.string z.2)
  have hblk : ((W.setCell ⟨g, A.length * 2, none⟩ (.string z.1)).setCell ⟨g, A.length * 2 + 1, none⟩ (.string z.2)).heap[g]? = some (.cells (flC kdPr (A ++ z :: B) ++ R).toArray kdPr.T (0, 0)) := by
    rw [blk_set (blk_set hbW _), ec x, ec z]
    congr 2
    rw [List.setIfInBounds_toArray, List.setIfInBounds_toArray]
    congr 1
    rw [← hA, List.set_append_right _ _ (Nat.le_refl _), List.set_append_right _ _ (by omega)]
    simp
  have hpr : FlO kdPr w0 ((W.setCell ⟨g, A.length * 2, none⟩ (.string z.1)).setCell ⟨g, A.length * 2 + 1, none⟩ (.string z.2)) (.slice (some ⟨g, 0, none⟩) (A ++ x :: B).length cap) (A ++ z :: B) := by
    have q := FlG.own kdPr_ok (⟨hg.lo, hblk, by rw [hl]; exact hg.le, hg.max, by
      have := hg.len
      rw [ec] at this ⊢
      simp only [List.length_append, List.length_cons] at this ⊢
      omega⟩ : FlG kdPr w0 _ g cap (A ++ z :: B) R)
    rw [hl z] at q
    exact q
  have hnd : FlO kdNd w0 W vc cs := own_of h.nd fun i _ => by rw [hW]
  exact ⟨h.lo, (k.block nb (by rw [hW]; exact blk_lt h.blk) fun e => (h.apart (show _ = some g from rfl)).1 e.symm).trans (blk_heap hW h.blk), hpr, hnd.ch k fun i e e2 => (h.apart (show _ = some g from rfl)).2 (e2 ▸ e)⟩
/-- What put answers. -/
def PutP (F : Nat → Prop) (h : Nat) (w : World) (k : ByteArray) (v : ByteArray) (m : Nat) (L : List Kv) (e : Ending) (w' : World) : Prop :=
  ∃ nb m', e = .returned (.tuple #[.pointer (some ⟨nb, 0, none⟩), .bool (getL L k).isNone]) ∧ TrIs (fun i => F i ∨ w.heap.size ≤ i) h w' (some nb) m' (putL13 L k v) ∧ Ch (fun _ => False) w w' ∧ m ≤ m' ∧ m' ≤ m + 1
/-- A node of one's own, as a tree. -/
theorem own_tree {F G : Nat → Prop} {w0 w : World} {nb : Nat} {vp vc : Value} {ps : List Kv} {cs : List Nat} {h : Nat} {L : List Kv} (ho : OwnN w0 w nb vp vc ps cs) (hl : ps.length ≤ 1000) (hl2 : cs.length ≤ 1000) (hG : ∀ i, w0.heap.size ≤ i → G i) (hk : KidsP (TrIs G h w) h ps cs L) : TrIs G (h + 1) w (some nb) ps.length L :=
  ⟨nb, ps, cs, rfl, ho.read hl hl2 fun i hi => hG i (ho.at hi).1, rfl, hk⟩
/-- What set leaves, as a tree. -/
theorem set_tree {F G : Nat → Prop} {h : Nat} {w0 w w' : World} {nb : Nat} {vp vc : Value} {n m : Nat} {X : List Kv} {e : Ending} (hs : SetP F h w0 w nb vp vc n m X e w') (hn : n ≤ 20) (hG : ∀ i, w0.heap.size ≤ i → G i) (hF : ∀ i, F i → G i) (hw : w0.heap.size ≤ w.heap.size) : ∃ m', e = .returned (.tuple #[]) ∧ TrIs G (h + 2) w' (some nb) m' X ∧ Ch (OwnS nb vp vc) w w' ∧ m' ≤ n + 1 ∧ n ≤ m' + 1 ∧ (3 ≤ m → n ≤ m') ∧ (m ≤ 7 → m' ≤ n) := by
  obtain ⟨vp', vc', ps', cs', Ls', rfl, ho, _, hc, hl, hA, rfl, s1, s2, s3, s4⟩ := hs
  have hcl := hA.len
  refine ⟨ps'.length, rfl, own_tree (F := F) ho (by omega) (by omega) hG (Or.inr ⟨by omega, Ls', hl, rfl, hA.imp fun c l ⟨mm, q1, q2, q3⟩ => ⟨mm, q1, q2, q3.mono fun i hi _ => ?_⟩⟩), hc, s1, s2, s3, s4⟩
  rcases hi.1 with q | q
  · exact hF i q
  · exact hG i (by omega)
#print axioms set_tree
set_option maxHeartbeats 6400000 in
theorem put_step (k : ByteArray) (v : ByteArray) (h : Nat) (ih : 0 < h → ∀ {F : Nat → Prop} {w : World} {b m : Nat} {L : List Kv}, TrIs F h w (some b) m L → Rise L → m ≤ 7 → (∀ i, F i → i < w.heap.size) →
      Calls Try.prog 47 #[.pointer (some ⟨b, 0, none⟩), .agg #[.string k, .string v]] w (PutP F h w k v m L))
    {F : Nat → Prop} {w : World} {b m : Nat} {L : List Kv} (ht : TrIs F (h + 1) w (some b) m L) (hr : Rise L) (hm : m ≤ 7) (hFb : ∀ i, F i → i < w.heap.size) :
    Calls Try.prog 47 #[.pointer (some ⟨b, 0, none⟩), .agg #[.string k, .string v]] w (PutP F (h + 1) w k v m L) := by
  obtain ⟨b', ps, cs, eb, hnd, rfl, hk⟩ := ht
  injection eb with eb
  subst eb
  have hRp : Rise ps := by
    rcases hk with ⟨_, _, rfl⟩ | ⟨_, Ls, _, rfl, _⟩
    · exact hr
    · exact rise_pairs hr
  have hbx := (Ch.refl (fun _ => False) w).alloc #[.string k, .string v] 93
  obtain ⟨w1, hw1⟩ : ∃ w1, w1 = w.alloc (.cells #[.string k, .string v] 93) := ⟨_, rfl⟩
  obtain ⟨H, hH⟩ : ∃ H, H = w.heap.size := ⟨_, rfl⟩
  have hbk : w1.heap[H]? = some (.cells #[.string k, .string v] 93 (0, 0)) := by rw [hw1, hH]; exact heap_alloc_new w _
  rw [← hw1] at hbx
  have hz1 : H < w1.heap.size := blk_lt hbk
  have HCO := Lib.hid (ncopied_any (hnd.ch hbx fun _ _ f => f))
  have HW1 := Lib.hid hw1
  clear hw1
  go_enter Try.func47, Try.ntmps47
  go_wp2_with fail
  rw [← HW1.out, ← hH]
  clear HW1
  refine HCO.out.mono ?_
  rintro e w2 ⟨nb, vp, vc, rfl, hown, hc2⟩
  have hc12 := hbx.trans hc2
  have b0 : w2.cell? ⟨H, 0, none⟩ = some (.string k) := hc2.cell (by rw [blk_cell hbk]; rfl) (fun f => f)
  have HFI := Lib.hid (nfind_any k (hnd.ch hc12 fun _ _ f => f) hRp (by omega))
  have HK12 := Lib.hid hc12
  have HK1 := Lib.hid hbx
  have HOWN := Lib.hid hown
  have HBK := Lib.hid ((hc2.block H hz1 (fun f => f)).trans hbk)
  have HNDF := Lib.hid hnd
  have HKI := Lib.hid hk
  have HRR := Lib.hid (And.intro hr hRp)
  have HHL := Lib.hid (And.intro hH hz1)
  clear hc12 hbx hown hbk hnd hk hr hRp hc2 hH hz1 HCO
  go_wp2_with fail
  refine HFI.out.mono ?_
  rintro e w3 ⟨a, bb, e1, rfl, e2, e3, hc3⟩
  subst e1
  have HK3 := Lib.hid hc3
  have hbk3 := (hc3.block H (blk_lt HBK.out) (fun f => f)).trans HBK.out
  have b3 : w3.cell? ⟨H, 0, none⟩ = some (.string k) := by rw [blk_cell hbk3]; rfl
  have b4 : w3.cell? ⟨H, 1, none⟩ = some (.string v) := by rw [blk_cell hbk3]; rfl
  have hown3 := HOWN.out.gr hc3
  have HOW3 := Lib.hid hown3
  obtain ⟨i, hi⟩ : ∃ i, i = a.length := ⟨_, rfl⟩
  rw [← hi]
  have HI := Lib.hid hi
  have i0 : (0 : Int) ≤ (i : Int) := Int.natCast_nonneg _
  have hab : a.length + bb.length ≤ 7 := by rw [List.length_append] at hm; exact hm
  have HAB := Lib.hid hab
  have HE := Lib.hid (And.intro e2 e3)
  clear hc3 b0 hbk3 HFI HBK HOWN e2 e3 hi hm hab
  cases hB : hereB bb k
  · have habv := gap_above (rise_app.1 HRR.out.2).2.1 HE.out.2 hB
    have hB2 : (getL L k).isSome = (getL L k).isSome := rfl
    have k3 := HK12.out.trans HK3.out
    have hnd3 := HNDF.out.ch k3 fun _ _ f => f
    rcases Nat.eq_zero_or_pos h with h0 | h0
    · -- a leaf
      obtain ⟨rfl, rfl⟩ : cs = [] ∧ L = a ++ bb := by
        rcases HKI.out with ⟨_, e1, e2⟩ | ⟨e, _⟩
        · exact ⟨e1, e2⟩
        · omega
      have HCH := Lib.hid (nchild_any i hnd3 (Or.inl rfl))
      obtain ⟨Av, Cv, rfl⟩ := hown3.pr.len
      obtain ⟨n, hn⟩ : ∃ n, n = (a ++ bb).length := ⟨_, rfl⟩
      rw [← hn] at hown3
      have p2 : w3.cell? ⟨nb, 0, none⟩ = some (.slice Av n Cv) := by rw [blk_cell hown3.blk]; rfl
      have ha6 := (Ch.refl (fun _ => False) w3).alloc #[.string k, .string v] 93
      have ha7 := ha6.drew
      have hO7 := hown3.gr ha7
      have hins := insert_any w1 (w3.alloc (.cells #[.string k, .string v] 93)).drew (.slice Av n Cv) a bb (k, v) w3.heap.size hO7.pr (heap_alloc_new w3 _) (fun e => by have := (hown3.at (Or.inr (Or.inl e))).2; omega) (by have := HAB.out; omega) (Nat.le_trans (Nat.le_trans (hown3.lo) (Nat.le_of_lt (blk_lt hown3.blk))) ha7.size)
      rw [← HI.out] at hins
      have HIN := Lib.hid hins
      have HO7 := Lib.hid hO7
      have HA7 := Lib.hid ha7
      have p3 := ha6.cell p2 (fun f => f)
      have p5 := ha6.cell b3 (fun f => f)
      have p6 := ha6.cell b4 (fun f => f)
      obtain ⟨l8, hl8⟩ : ∃ l8, l8 = (a ++ (k, v) :: bb).length := ⟨_, rfl⟩
      have HL8 := Lib.hid hl8
      have HG := Lib.hid (And.intro habv (getL_off (Y := a ++ bb) (k := k) fun y hy => (List.mem_append.1 hy).imp (HE.out.1 y) (habv y)))
      have HN := Lib.hid hn
      clear hB habv hB2 hnd3 hown3 hins hO7 ha6 ha7 hl8 hn k3
      go_wp2_with fail
      refine HCH.out.mono ?_
      rintro e w4 ⟨rfl, rfl⟩
      have hcn : ptrV ([] : List Nat)[i]? = .pointer none := by simp [ptrV]
      rw [hcn]
      clear hcn
      go_wp2_with fail
      go_region_law (refine step_calls rfl 58 _ _ rfl _ (by simp [Act.eval, Act.put]) (enters_of Try.func58 (by kernel_rfl) rfl) HIN.out ?_; rintro e w8 ⟨v8, rfl, ho8, hk8, hb8⟩; obtain ⟨A8, C8, rfl⟩ := ho8.lenL l8 HL8.out; obtain ⟨hown9, hch9, s3, s4⟩ := HO7.out.newP ho8 hk8; refine ⟨_, rfl, ?_⟩)
      all_goals (
        have kf : Ch (fun _ => False) w (w8.setCell ⟨nb, 0, none⟩ (.slice A8 l8 C8)) := ((HK12.out.trans HK3.out).trans HA7.out).new (hch9.mono fun j _ hj => Nat.le_trans HK1.out.size (HO7.out.at hj).1)
        have hfin : PutP F (h + 1) w k v (a ++ bb).length (a ++ bb) (.returned (.tuple #[.pointer (some ⟨nb, 0, none⟩), .bool true])) (w8.setCell ⟨nb, 0, none⟩ (.slice A8 l8 C8)) := by
          refine ⟨nb, (a ++ (k, v) :: bb).length, by rw [HG.out.2]; rfl, ?_, kf, by simp only [List.length_append, List.length_cons]; omega, by simp only [List.length_append, List.length_cons]; omega⟩
          rw [putL_gap HE.out.1 HG.out.1]
          exact own_tree (F := F) hown9 (by have := HAB.out; simp; omega) (by simp) (fun j hj => Or.inr (Nat.le_trans HK1.out.size hj)) (Or.inl ⟨h0, rfl, rfl⟩)
        have HFIN := Lib.hid hfin
        clear kf hfin hown9 hch9 s3 s4 ho8 hk8 hb8 p2 p3 p5 p6
        go_wp2
        go_ret2
        exact HFIN.out)
    · -- a child has it
      obtain ⟨h', rfl⟩ : ∃ h', h = h' + 1 := ⟨h - 1, by omega⟩
      obtain ⟨cA, c, cB, LA, l, LB, mc, rfl, hla, hlb, rfl, c3, c7, hct, hA, hB'⟩ := kids_gap HKI.out h0
      obtain ⟨gX, gY, gl⟩ := gap_parts HRR.out.1 HE.out.1 habv
      have hcx : (cA ++ c :: cB)[i]? = some c := by rw [HI.out, hla, List.getElem?_append_right (Nat.le_refl _)]; simp
      have HCH := Lib.hid (nchild_any i hnd3 (Or.inr (by rw [HI.out, hla]; simp)))
      obtain ⟨_, Aq, Cq, Ad, Cd, hbq, _, hrd⟩ := hnd3
      obtain ⟨gd, od, rfl, hcd⟩ := hrd.v.at' (by simp only [List.length_append, List.length_cons]; omega)
      obtain ⟨t, ht⟩ : ∃ t, t = (cA ++ c :: cB).length := ⟨_, rfl⟩
      rw [← ht] at hbq
      have r0 : w3.cell? ⟨b, 1, none⟩ = some (.slice (some ⟨gd, od, none⟩) t Cd) := by rw [blk_cell hbq]; rfl
      have r1 : w3.cell? ⟨gd, od + i, none⟩ = some (.pointer (some ⟨c, 0, none⟩)) := by
        have := hcd i c hcx 0 _ rfl
        rw [show kdNd.k = 1 from rfl, Nat.mul_one] at this; exact this
      have i1 : (i : Int) < (t : Int) := by rw [ht, HI.out, hla]; simp only [List.length_append, List.length_cons]; omega
      have kd := k3.drew
      have hrec := ih h0 (hct.gr kd) gl c7 (fun j hj => Nat.lt_of_lt_of_le (hFb j hj) kd.size)
      have HREC := Lib.hid hrec
      have HX := Lib.hid (And.intro gX (And.intro gY (And.intro hla (And.intro hlb (And.intro c3 c7)))))
      have HTA := Lib.hid (And.intro hA hB')
      have HO3 := Lib.hid hown3
      have HBQ := Lib.hid (getL_mid (l := l) gX gY)
      clear hB habv hB2 hown3 hbq hrd hcd ht kd hrec hct gX gY gl c3 c7 hA hB' hla hlb k3
      go_wp2_with fail
      refine HCH.out.mono ?_
      rintro e w4 ⟨rfl, rfl⟩
      rw [hcx]
      clear hcx
      have hcn : ptrV (some c) = .pointer (some ⟨c, 0, none⟩) := rfl
      rw [hcn]
      clear hcn
      go_wp2_with fail
      go_region_held3 (fun w' => w'.cell? ⟨b, 1, none⟩ = some (.slice (some ⟨gd, od, none⟩) t Cd) ∧ w'.cell? ⟨gd, od + i, none⟩ = some (.pointer (some ⟨c, 0, none⟩)) ∧ w'.cell? ⟨H, 0, none⟩ = some (.string k) ∧ w'.cell? ⟨H, 1, none⟩ = some (.string v)) (first | go_keep | exact ka)
        (first
          | (go_at_call 47; refine HREC.out.mono ?_; rintro e w5 ⟨cb, m', rfl, ht5, hc5, s1, s2⟩; have hc35 := (Ch.refl (fun _ => False) w4).drew.trans hc5; have ka := And.intro (hc35.cell r0 (fun f => f)) (And.intro (hc35.cell r1 (fun f => f)) (And.intro (hc35.cell b3 (fun f => f)) (hc35.cell b4 (fun f => f))))))
      have hc15 := (HK12.out.trans HK3.out).trans hc35
      have hO5 := HO3.out.gr hc35
      have hF2 : ∀ j, (F j ∨ (w4.heap.size ≤ j ∧ j < w5.heap.size)) → ¬ OwnS nb vp vc j := fun j hj hs => by
        have h1 := HO3.out.at hs
        have h2 := HK1.out.size
        rcases hj with q | q
        · have := hFb j q; omega
        · omega
      have hset := set_any (F := fun j => F j ∨ (w4.heap.size ≤ j ∧ j < w5.heap.size)) (h := h') hO5 HX.out.2.2.1 (HTA.out.1.imp fun c l q => Kid.ch q hc15 (fun _ _ f => f) fun j hj => Or.inl hj) (HTA.out.2.imp fun c l q => Kid.ch q hc15 (fun _ _ f => f) fun j hj => Or.inl hj) HX.out.2.2.2.1 (ht5.mono fun j hj hlt => hj.imp id fun q => ⟨q, hlt⟩) ⟨by have := HX.out; omega, by have := HX.out; omega⟩ (fun q => by have := HX.out; omega) hF2 (fun j hj => by
        rcases hj with q | q
        · have := hFb j q; have := hc15.size; omega
        · exact q.2) (by have := HAB.out; omega) (by have h1 := HO3.out.lo; have h2 := blk_lt HO3.out.blk; have h3 := hc35.size; omega)
      rw [← HI.out] at hset
      have HSET := Lib.hid hset
      have H15 := Lib.hid hc15
      have HO5 := Lib.hid hO5
      have HSS := Lib.hid (And.intro s1 s2)
      have HSZ := Lib.hid hc35.size
      clear hset hc15 hO5 hF2 ht5 hc5 s1 s2 hc35 ka r0 r1 HO3 HREC
      go_wp2_with fail
      refine HSET.out.mono ?_
      rintro e w6 hq
      obtain ⟨mm, rfl, htf, hcf, z1, z2, z3, z4⟩ := set_tree (G := fun j => F j ∨ w.heap.size ≤ j) hq (by have := HI.out; have := HAB.out; omega) (fun j hj => Or.inr (Nat.le_trans HK1.out.size hj)) (fun j hj => hj.imp id fun q => Nat.le_trans (HK12.out.trans HK3.out).size q.1) (by have h1 := HO5.out.lo; have h2 := blk_lt HO5.out.blk; omega)
      have kf : Ch (fun _ => False) w w6 := H15.out.new (hcf.mono fun j _ hj => Nat.le_trans HK1.out.size (HO5.out.at hj).1)
      have hfin : PutP F (h' + 1 + 1) w k v (a ++ bb).length (fr a LA ++ (l ++ bk bb LB)) (.returned (.tuple #[.pointer (some ⟨nb, 0, none⟩), .bool (getL l k).isNone])) w6 := by
        refine ⟨nb, mm, by rw [HBQ.out], ?_, kf, ?_, ?_⟩
        · rw [putL_mid HX.out.1 HX.out.2.1]; exact htf
        · have := z3 (by have := HX.out; have := HSS.out; omega); rw [List.length_append, ← HI.out]; exact this
        · rw [List.length_append, ← HI.out]; exact z1
      have HFIN := Lib.hid hfin
      clear htf hcf z1 z2 z3 z4 kf hfin hq HSET
      go_wp2
      go_ret2
      exact HFIN.out
  · obtain ⟨x, b2, rfl, hx⟩ := here_some hB
    obtain ⟨g, C, rfl, q1, q2, hput⟩ := own_pair hown3
    have HP := Lib.hid hput
    obtain ⟨n, hn⟩ : ∃ n, n = (a ++ x :: b2).length := ⟨_, rfl⟩
    have n0 : w3.cell? ⟨nb, 0, none⟩ = some (.slice (some ⟨g, 0, none⟩) n C) := by rw [blk_cell hown3.blk, hn]; rfl
    have i1 : (i : Int) < (n : Int) := by rw [hn, HI.out]; simp only [List.length_append, List.length_cons]; omega
    rw [← HI.out] at q1 q2
    have HX := Lib.hid hx
    have HNL := Lib.hid hn
    obtain ⟨q3, q4, q5, q6⟩ := And.intro q1.1 (And.intro q1.2 (And.intro q2.1 q2.2))
    have hgl : w1.heap.size ≤ g := (hown3.at (Or.inr (Or.inl rfl))).1
    have k3 := HK12.out.trans HK3.out
    have kf : Ch (fun _ => False) w (((w3.setCell ⟨g, i * 2, none⟩ (.string k)).setCell ⟨g, i * 2 + 1, none⟩ (.string v)).drew) := ((k3.setCell (p := ⟨g, i * 2, none⟩) (Or.inr (Nat.le_trans HK1.out.size hgl)) _).setCell (p := ⟨g, i * 2 + 1, none⟩) (Or.inr (Nat.le_trans HK1.out.size hgl)) _).drew
    obtain ⟨X, Y, eL, hz⟩ := kids_here HKI.out
    have hrL := HRR.out.1
    rw [eL] at hrL
    obtain ⟨hX, hY⟩ := here_parts hrL
    rw [hx] at hX hY
    have hfin : PutP F (h + 1) w k v (a ++ x :: b2).length L (.returned (.tuple #[.pointer (some ⟨nb, 0, none⟩), .bool false])) (((w3.setCell ⟨g, i * 2, none⟩ (.string k)).setCell ⟨g, i * 2 + 1, none⟩ (.string v)).drew) := by
      refine ⟨nb, (a ++ (k, v) :: b2).length, ?_, ?_, kf, by simp, by simp⟩
      · rw [eL, getL_here hX hx]; rfl
      · rw [eL, putL_here hX hY hx]
        have ho := (hput w3 (k, v) rfl).gr (Ch.refl (fun _ => False) _).drew
        rw [← HI.out] at ho
        have hcl := kids_len HKI.out
        have hlen := HAB.out
        simp only [List.length_cons] at hlen
        exact own_tree (F := F) ho (by simp; omega) (by rcases hcl with ⟨_, e⟩ | ⟨_, e⟩ <;> rw [e] <;> simp <;> omega) (fun j hj => Or.inr (Nat.le_trans HK1.out.size hj)) ((hz (k, v)).imp fun p m l q => (q.gr kf).mono fun j hj _ => Or.inl hj)
    have HFIN := Lib.hid hfin
    clear hB hown3 hput hx hn q1 q2 hgl k3 kf eL hz hrL hX hY hfin
    go_wp2_with fail
    go_region
    go_wp2
    go_ret2
    exact HFIN.out
#print axioms put_step
theorem nput_any (k : ByteArray) (v : ByteArray) : ∀ (h : Nat) {F : Nat → Prop} {w : World} {b m : Nat} {L : List Kv}, TrIs F h w (some b) m L → Rise L → m ≤ 7 → (∀ i, F i → i < w.heap.size) →
      Calls Try.prog 47 #[.pointer (some ⟨b, 0, none⟩), .agg #[.string k, .string v]] w (PutP F h w k v m L)
  | 0, _, _, _, _, _, ht, _, _, _ => by cases ht.1
  | h + 1, _, _, _, _, _, ht, hr, hm, hF => put_step k v h (fun _ => nput_any k v h) ht hr hm hF
#print axioms nput_any
end Go.Proofs.Ytkpahhioiefcbaa
namespace Go.Proofs.Ytkpahhioiefcbaa
open Go.RowKit
set_option linter.unusedVariables false
set_option maxRecDepth 100000
set_option linter.unusedSimpArgs false

def zeroPr : Array Value := #[.string ⟨#[]⟩, .string ⟨#[]⟩]
set_option maxHeartbeats 3200000 in
theorem last_any {F : Nat → Prop} {w : World} {b m h : Nat} {L : List Kv} (ht : TrIs F (h + 1) w (some b) m L) (hm : 1 ≤ m) (hm2 : m ≤ 100) : Calls Try.prog 56 #[.pointer (some ⟨b, 0, none⟩)] w fun e w' => ∃ X x, L = X ++ [x] ∧ e = .returned (.agg #[.string x.1, .string x.2]) ∧ Ch (fun _ => False) w w' := by
  obtain ⟨w1, hw1⟩ : ∃ w1, w1 = w.alloc (.cells zeroPr 93) := ⟨_, rfl⟩
  obtain ⟨H, hH⟩ : ∃ H, H = w.heap.size := ⟨_, rfl⟩
  have hk1 : Ch (fun _ => False) w w1 := by rw [hw1]; exact (Ch.refl _ w).alloc _ _
  have hbk : w1.heap[H]? = some (.cells zeroPr 93 (0, 0)) := by rw [hw1, hH]; exact heap_alloc_new w _
  have HT := Lib.hid (ht.gr hk1)
  have HK := Lib.hid hk1
  have HB := Lib.hid hbk
  have HM := Lib.hid (And.intro hm hm2)
  have HHW := Lib.hid (Nat.le_of_eq hH.symm)
  have HW := Lib.hid hw1
  clear ht hm hm2 hk1 hbk hw1
  go_enter Try.func56, Try.ntmps56
  go_wp2_with fail
  have hw2 := HW.out
  unfold zeroPr at hw2
  rw [← hH, ← hw2]
  clear hw2 hH HW
  go_loopg [0, 3, 4, 5, 6, 7, 8, 9, 10, 11, 12, 13, 14, 15, 16, 17, 18, 19] h (fun gk p _ _ _ _ _ _ _ _ _ _ _ _ _ _ _ _ _ wr => ∃ (b m : Nat) (L2 X : List Kv), p = .pointer (some ⟨b, 0, none⟩) ∧ Hid (TrIs F (gk + 1) wr (some b) m L2) ∧ Hid (1 ≤ m ∧ m ≤ 100) ∧ Hid (L = X ++ L2) ∧ Hid (Ch (fun _ => False) w wr) ∧ Hid (wr.heap[H]? = some (.cells zeroPr 93 (0, 0))))
  case atStart => exact ⟨b, m, L, [], rfl, HT, HM, Lib.hid rfl, HK, HB⟩
  case round =>
    clear HT HM HK HB
    obtain ⟨b, m, L2, X, rfl, HT, HM, HL, HK, HB⟩ := hrel
    obtain ⟨b', ps, cs, eb, hnd, em, hk⟩ := HT.out
    injection eb with eb
    subst eb
    obtain ⟨_, Aq, Cq, Ad, Cd, hbq, hrp, hrd⟩ := hnd
    have hmm := HM.out
    rw [em] at hmm
    obtain ⟨g, o, rfl, hpc⟩ := hrp.v.at' (by omega)
    obtain ⟨n, hn⟩ : ∃ n, n = ps.length := ⟨_, rfl⟩
    obtain ⟨t, ht⟩ : ∃ t, t = cs.length := ⟨_, rfl⟩
    rw [← hn, ← ht] at hbq
    have c0 : wr.cell? ⟨b, 0, none⟩ = some (.slice (some ⟨g, o, none⟩) n Cq) := by rw [blk_cell hbq]; rfl
    have c1 : wr.cell? ⟨b, 1, none⟩ = some (.slice Ad t Cd) := by rw [blk_cell hbq]; rfl
    have n0 : (0 : Int) < (n : Int) := by omega
    have n1 : (n : Int) ≤ 100 := by omega
    rcases Nat.eq_zero_or_pos gk with h0 | h0
    · obtain ⟨rfl, rfl⟩ : cs = [] ∧ L2 = ps := by
        rcases hk with ⟨_, e1, e2⟩ | ⟨e, _⟩
        · exact ⟨e1, e2⟩
        · omega
      have t0 : t = 0 := ht
      subst t0
      obtain ⟨Y, r, eY, hY⟩ := list_cut L2 (n - 1) (by omega)
      obtain ⟨x, rfl⟩ : ∃ x, r = [x] := by
        have := congrArg List.length eY
        rw [List.length_append] at this
        match r, (show r.length = 1 by omega) with
        | [x], _ => exact ⟨x, rfl⟩
      have hx : L2[n - 1]? = some x := by rw [eY, List.getElem?_append_right (by omega)]; simp [hY]
      have p0 : wr.cell? ⟨g, o + (n - 1) * 2, none⟩ = some (.string x.1) := hpc _ x hx 0 _ rfl
      have p1 : wr.cell? ⟨g, o + (n - 1) * 2 + 1, none⟩ = some (.string x.2) := hpc _ x hx 1 _ rfl
      have HL2 := Lib.hid (show L = (X ++ Y) ++ [x] by rw [HL.out, eY, List.append_assoc])
      have i1 : ((n : Int) - 1).toNat = n - 1 := by omega
      have i2 : (0 : Int) ≤ (n : Int) - 1 := by omega
      have i3 : (n : Int) - 1 < (n : Int) := by omega
      have s0 : wr.cell? ⟨H, 0, none⟩ = some (.string ⟨#[]⟩) := by rw [blk_cell HB.out]; rfl
      have s1 : wr.cell? ⟨H, 1, none⟩ = some (.string ⟨#[]⟩) := by rw [blk_cell HB.out]; rfl
      have s2 : wr.frozen? ⟨H, 0, none⟩ = false := blk_frozen HB.out
      have s3 : wr.frozen? ⟨H, 1, none⟩ = false := blk_frozen HB.out
      clear hbq hrp hrd hpc hn ht hk em hmm hx eY hY h0
      go_wp2_with fail
      go_region
      go_wp2_with fail
      have hfb : (((wr.setCell ⟨H, 0, none⟩ (.string x.1)).setCell ⟨H, 1, none⟩ (.string x.2)).drew).heap[H]? = some (.cells #[.string x.1, .string x.2] 93 (0, 0)) := by
        show ((wr.setCell ⟨H, 0, none⟩ (.string x.1)).setCell ⟨H, 1, none⟩ (.string x.2)).heap[H]? = _
        rw [blk_set (blk_set HB.out _)]
        rfl
      exact bodyPost_ret (v := .agg #[.string x.1, .string x.2]) (results_cell_row Try.results56 _ _ H 93 #[.string x.1, .string x.2] (0, 0) _ rfl hfb Try.underlying93 rfl (by kernel_rfl)) rfl ⟨_, x, HL2.out, rfl, ((HK.out.setCell (p := ⟨H, 0, none⟩) (Or.inr HHW.out) _).setCell (p := ⟨H, 1, none⟩) (Or.inr HHW.out) _).drew⟩
    · obtain ⟨g', rfl⟩ : ∃ g', gk = g' + 1 := ⟨gk - 1, by omega⟩
      have hk' : KidsP (TrIs F (g' + 1) wr) (g' + 1) (ps ++ []) cs L2 := by rw [List.append_nil]; exact hk
      obtain ⟨cA, c, cB, LA, l, LB, mc, rfl, hla, hlb, rfl, c3, c7, hct, hA, hB'⟩ := kids_gap hk' h0
      have hcB : cB = [] := List.eq_nil_of_length_eq_zero (by rw [← hlb]; rfl)
      subst hcB
      have hcx : (cA ++ [c])[n]? = some c := by rw [hn, hla, List.getElem?_append_right (Nat.le_refl _)]; simp
      have ht' : t = n + 1 := by rw [ht, List.length_append, ← hla, hn]; rfl
      obtain ⟨gd, od, rfl, hcd⟩ := hrd.v.at' (by simp)
      have r1 : wr.cell? ⟨gd, od + n, none⟩ = some (.pointer (some ⟨c, 0, none⟩)) := by
        have := hcd n c hcx 0 _ rfl
        rw [show kdNd.k = 1 from rfl, Nat.mul_one] at this; exact this
      have t0 : (0 : Int) < (t : Int) := by omega
      have t1 : (n : Int) < (t : Int) := by omega
      have HT2 := Lib.hid hct
      have HL2 := Lib.hid (show L = (X ++ fr ps LA) ++ l by rw [HL.out]; simp [bk])
      have HM2 := Lib.hid (show 1 ≤ mc ∧ mc ≤ 100 by omega)
      clear hbq hrp hrd hpc hn ht hk hk' em hmm hcx hct hcd ht' c3 c7 hA hB' hla hlb h0
      go_wp2_with fail
      go_region
      go_wp2_with fail
      go_roundg g'
      case measure => omega
      case rel => exact ⟨c, mc, l, _, rfl, Lib.hid (HT2.out.gr ((Ch.refl (fun _ => False) wr).drew)), HM2, HL2, Lib.hid HK.out.drew, HB⟩
#print axioms last_any
end Go.Proofs.Ytkpahhioiefcbaa
