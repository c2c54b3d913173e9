/-
  The tree itself: Get, Put, Del. The tree itself: Put, Del. The tree itself: Del. A node goes through what it has, from a key on: by induction on how high it stands; within a range over a function.
-/
import Derived.Test.YtkpahhioiefcbaaMb22
import Derived.Test.YtkpahhioiefcbaaMb2
import Derived.Shelf.Abstract
import Derived.Deep.RegionHeld
import Derived.Sort.CutIn
namespace Go.Proofs.Ytkpahhioiefcbaa
open Go.RowKit
set_option linter.unusedVariables false
set_option maxRecDepth 100000
set_option linter.unusedSimpArgs false

def gotT (o : Option ByteArray) : Value := .tuple #[.string (o.getD ⟨#[]⟩), .bool o.isSome]
set_option maxHeartbeats 3200000 in
theorem tget_any {w : World} {t h : Nat} {L : List Kv} (ht : TreeIs w t h L) (k : ByteArray) : Calls Try.prog 44 #[.pointer (some ⟨t, 0, none⟩), .string k] w (Ans (gotT (getL L k)) w) := by
  obtain ⟨F, root, m, hb, hT, hm, hr, _⟩ := ht
  have HTOP := Lib.hid (ttop_any (h := h) hb)
  have HT := Lib.hid (And.intro hT (And.intro hm hr))
  clear hb hT hm hr
  go_enter Try.func44, Try.ntmps44
  go_wp2_with fail
  refine HTOP.out.mono ?_
  rintro e w1 ⟨rfl, rfl⟩
  obtain ⟨v, hv⟩ : ∃ v, v = ptrV root := ⟨_, rfl⟩
  rw [← hv]
  have HV := Lib.hid hv
  clear hv HTOP
  go_wp2_with fail
  go_loopg [6] h (fun gk p wr => ∃ (o : Option Nat) (m : Nat) (L2 : List Kv), Hid (p = ptrV o) ∧ Hid (TrIs F gk wr o m L2 ∧ (0 < gk → 1 ≤ m ∧ m ≤ 7) ∧ Rise L2) ∧ Hid (getL L2 k = getL L k) ∧ Hid (Ch (fun _ => False) w1 wr))
  case atStart => exact ⟨root, m, L, HV, HT, Lib.hid rfl, Lib.hid (Ch.refl _ _)⟩
  case round =>
    clear HV HT
    obtain ⟨o, m, L2, HP, HT, HG, HC⟩ := hrel
    have hp := HP.out
    cases gk with
    | zero =>
      have ho : o = none := HT.out.1.1
      rw [ho] at hp
      have hp2 : u6 = .pointer none := hp
      subst hp2
      have hn : getL L k = none := by rw [← HG.out, HT.out.1.2.2]; rfl
      have HE := Lib.hid hn
      clear ho hp hn
      go_wp2_with fail
      go_ret2
      exact ⟨by rw [HE.out]; rfl, HC.out⟩
    | succ g =>
      obtain ⟨b, ps, cs, eb, hnd, em, hk⟩ := HT.out.1
      rw [eb] at hp
      have hp2 : u6 = .pointer (some ⟨b, 0, none⟩) := hp
      subst hp2
      have hRp : Rise ps := by
        have hr := HT.out.2.2
        rcases hk with ⟨_, _, rfl⟩ | ⟨_, Ls, _, rfl, _⟩
        · exact hr
        · exact rise_pairs hr
      have hm7 : ps.length ≤ 7 := by have := HT.out.2.1 (Nat.succ_pos _); omega
      have HFI := Lib.hid (nfind_any k hnd hRp (by omega))
      have HND := Lib.hid hnd
      have HKD := Lib.hid hk
      have HRP := Lib.hid hRp
      have HM7 := Lib.hid hm7
      clear hnd hk em eb hp hRp hm7
      go_wp2_with fail
      refine HFI.out.mono ?_
      rintro e w2 ⟨a, bb, e1, rfl, e2, e3, hc2⟩
      subst e1
      have HC2 := Lib.hid hc2
      have hnd2 := HND.out.ch hc2 fun _ _ f => f
      obtain ⟨i, hi⟩ : ∃ i, i = a.length := ⟨_, rfl⟩
      rw [← hi]
      have HI := Lib.hid hi
      have i0 : (0 : Int) ≤ (i : Int) := Int.natCast_nonneg _
      have HE := Lib.hid (And.intro e2 e3)
      obtain ⟨hh, hhh⟩ : ∃ hh, hh = hereB bb k := ⟨_, rfl⟩
      rw [← hhh]
      clear hc2 e2 e3 hi HFI
      cases hh
      · have habv := gap_above (rise_app.1 HRP.out).2.1 HE.out.2 hhh.symm
        have hchild : (cs = [] ∨ i < cs.length) ∧ ∃ m' L', TrIs F g wr cs[i]? m' L' ∧ (0 < g → 1 ≤ m' ∧ m' ≤ 7) ∧ Rise L' ∧ getL L' k = getL L k := by
          rcases Nat.eq_zero_or_pos g with g0 | g0
          · subst g0
            obtain ⟨e1, e2⟩ : cs = [] ∧ L2 = a ++ bb := by
              rcases HKD.out with ⟨_, e1, e2⟩ | ⟨e, _⟩
              · exact ⟨e1, e2⟩
              · omega
            refine ⟨Or.inl e1, 0, [], by rw [e1]; exact ⟨rfl, rfl, rfl⟩, fun f => absurd f (Nat.lt_irrefl 0), rise_nil, ?_⟩
            rw [← HG.out, e2, getL_off fun y hy => (List.mem_append.1 hy).imp (HE.out.1 y) (habv y)]
            rfl
          · obtain ⟨g', rfl⟩ : ∃ g', g = g' + 1 := ⟨g - 1, by omega⟩
            obtain ⟨cA, c, cB, LA, l, LB, mc, e1, hla, hlb, e2, c3, c7, hct, hA, hB'⟩ := kids_gap HKD.out g0
            have hr := HT.out.2.2
            rw [e2] at hr
            obtain ⟨gX, gY, gl⟩ := gap_parts hr HE.out.1 habv
            have hcx : cs[i]? = some c := by rw [e1, HI.out, hla, List.getElem?_append_right (Nat.le_refl _)]; simp
            refine ⟨Or.inr (by rw [e1, HI.out, hla]; simp), mc, l, by rw [hcx]; exact hct, fun _ => ⟨by omega, c7⟩, gl, ?_⟩
            rw [← HG.out, e2, getL_mid gX gY]
        have HCH := Lib.hid (nchild_any i hnd2 hchild.1)
        have HNX := Lib.hid hchild.2
        clear habv hchild hnd2 hhh
        go_wp2_with fail
        refine HCH.out.mono ?_
        rintro e w3 ⟨rfl, rfl⟩
        obtain ⟨v, hv⟩ : ∃ v, v = ptrV cs[i]? := ⟨_, rfl⟩
        rw [← hv]
        have HV := Lib.hid hv
        clear hv HCH
        go_wp2_with fail
        go_roundg g
        case measure => omega
        case rel =>
          obtain ⟨m', L', n1, n2, n3, n4⟩ := HNX.out
          exact ⟨_, m', L', HV, Lib.hid ⟨n1.gr HC2.out, n2, n3⟩, Lib.hid n4, Lib.hid (HC.out.trans HC2.out)⟩
      · obtain ⟨x, b2, rfl, hx⟩ := here_some hhh.symm
        obtain ⟨X, Y, eL, _⟩ := kids_here HKD.out
        have hr := HT.out.2.2
        rw [eL] at hr
        have hgx : getL L k = some x.2 := by
          rw [← HG.out, eL, ← hx]
          exact getL_here (here_parts hr).1 rfl
        have HGX := Lib.hid hgx
        obtain ⟨_, Aq, Cq, Ad, Cd, hbq, hrp, _⟩ := hnd2
        obtain ⟨g2, o2, rfl, hpc⟩ := hrp.v.at' (by simp only [List.length_append, List.length_cons]; omega)
        obtain ⟨n, hn⟩ : ∃ n, n = (a ++ x :: b2).length := ⟨_, rfl⟩
        rw [← hn] at hbq
        have c0 : w2.cell? ⟨b, 0, none⟩ = some (.slice (some ⟨g2, o2, none⟩) n Cq) := by rw [blk_cell hbq]; rfl
        have hxi : (a ++ x :: b2)[i]? = some x := by rw [HI.out, List.getElem?_append_right (Nat.le_refl _)]; simp
        have p1 : w2.cell? ⟨g2, o2 + i * 2 + 1, none⟩ = some (.string x.2) := hpc i x hxi 1 _ rfl
        have i1 : (i : Int) < (n : Int) := by rw [hn, HI.out]; simp only [List.length_append, List.length_cons]; omega
        clear hhh hx eL hr hgx hbq hrp hpc hn hxi
        go_wp2_with fail
        go_ret2
        exact ⟨by rw [HGX.out]; rfl, HC.out.trans HC2.out⟩
#print axioms tget_any
end Go.Proofs.Ytkpahhioiefcbaa
namespace Go.Proofs.Ytkpahhioiefcbaa
open Go.RowKit
set_option linter.unusedVariables false
set_option maxRecDepth 100000
set_option linter.unusedSimpArgs false

theorem isNone_not (o : Option ByteArray) : o.isNone = !o.isSome := by cases o <;> rfl
/-- What Put answers. -/
def TPutP (w : World) (t : Nat) (k : ByteArray) (v : ByteArray) (L : List Kv) (e : Ending) (w' : World) : Prop := ∃ h', e = .returned (.bool (!(getL L k).isSome)) ∧ TreeIs w' t h' (putL13 L k v) ∧ Ch (fun i => i = t) w w'
set_option maxHeartbeats 3200000 in
theorem tput_any {w : World} {t h : Nat} {L : List Kv} (ht : TreeIs w t h L) (k : ByteArray) (v : ByteArray) (hL : L.length ≤ 100000) : Calls Try.prog 30 #[.pointer (some ⟨t, 0, none⟩), .string k, .string v] w (TPutP w t k v L) := by
  obtain ⟨F, root, m, hb, hT, hm, hr, hF, _⟩ := ht
  have hr1 := hr
  have HLR := Lib.hid (And.intro hr hL)
  obtain ⟨n, hn⟩ : ∃ n, n = L.length := ⟨_, rfl⟩
  rw [← hn] at hb
  have HN := Lib.hid hn
  have n1 : (n : Int) ≤ 100000 := by omega
  have n0 : (0 : Int) ≤ (n : Int) := Int.natCast_nonneg _
  have hlt := blk_lt hb
  clear hr hL hn
  cases h with
  | zero =>
    obtain ⟨rfl, rfl, hLe⟩ := hT
    have c0 : w.cell? ⟨t, 0, none⟩ = some (.pointer none) := by rw [blk_cell hb]; rfl
    obtain ⟨w1, hw1⟩ : ∃ w1, w1 = w.alloc (.cells #[.slice none 0 0, .slice none 0 0] 89) := ⟨_, rfl⟩
    have hcw : Ch (fun _ => False) w w1 := by rw [hw1]; exact (Ch.refl _ w).alloc _ _
    have hnb : w1.heap[w.heap.size]? = some (.cells #[.slice none 0 0, .slice none 0 0] 89 (0, 0)) := by rw [hw1]; exact heap_alloc_new w _
    obtain ⟨F1, hFe⟩ : ∃ F1 : Nat → Prop, F1 = fun i => i = w.heap.size := ⟨_, rfl⟩
    obtain ⟨h1, hh1⟩ : ∃ h1 : Nat, h1 = 0 := ⟨_, rfl⟩
    have hT1 : TrIs F1 (h1 + 1) w1 (some w.heap.size) 0 L := by
      rw [hFe, hh1, hLe]
      exact ⟨w.heap.size, [], [], rfl, ⟨rfl, none, 0, none, 0, hnb, ⟨flV_none _ _ _, fun q => absurd rfl q, fun q => absurd rfl q⟩, ⟨flV_none _ _ _, fun q => absurd rfl q, fun q => absurd rfl q⟩⟩, rfl, Or.inl ⟨rfl, rfl, rfl⟩⟩
    have hm1 : 0 ≤ 7 := Nat.zero_le _
    have hF1 : ∀ i, F1 i → i < w1.heap.size ∧ i ≠ t := fun i hi => by
      rw [hFe] at hi
      have hi : i = w.heap.size := hi
      subst hi
      exact ⟨blk_lt hnb, (Nat.ne_of_lt hlt).symm⟩
    have hge : ∀ (w2 : World) (nb m' : Nat), TrIs (fun i => F1 i ∨ w1.heap.size ≤ i) (h1 + 1) w2 (some nb) m' (putL13 L k v) → 0 ≤ m' → 1 ≤ m' := fun w2 nb m' q _ => by
      rw [hh1, hLe] at q
      obtain ⟨_, ps, _, _, _, e1, e2⟩ := q
      rcases e2 with ⟨_, _, e3⟩ | ⟨e, _⟩
      · have := congrArg List.length e3
        rw [e1, ← this]
        simp [putL13]
      · exact absurd e (Nat.lt_irrefl 0)
    have hct := (hcw.block t hlt (fun f => f)).trans hb
    have hlt0 := hlt
    have hlt : t < w1.heap.size := Nat.lt_of_lt_of_le hlt0 hcw.size
    have HW1 := Lib.hid hw1
    have HH1 := Lib.hid hh1
    clear hlt0 hb hw1 hnb hFe hm hF hh1 hLe
    go_enter Try.func30, Try.ntmps30
    have HPUT := Lib.hid (nput_any k v (h1 + 1) hT1 hr1 hm1 (fun i hi => (hF1 i hi).1))
    have HT1 := Lib.hid (And.intro hT1 (And.intro hm1 hF1))
    have HGE := Lib.hid hge
    have HCT := Lib.hid hct
    have HCW := Lib.hid hcw
    have HLT := Lib.hid hlt
    clear hT1 hm1 hF1 hge hct hcw hlt
    go_wp2_with fail
    rw [← HW1.out]
    refine HPUT.out.mono ?_
    rintro e w2 ⟨nb, m', rfl, hT2, hc2, s1, s2⟩
    have hF2 : ∀ i, ((F1 i ∨ w1.heap.size ≤ i) ∧ i < w2.heap.size) → i < w2.heap.size := fun i hi => hi.2
    have hT2' : TrIs (fun i => (F1 i ∨ w1.heap.size ≤ i) ∧ i < w2.heap.size) (h1 + 1) w2 (some nb) m' (putL13 L k v) := hT2.mono fun i hi hl => ⟨hi, hl⟩
    have HGR := Lib.hid (grown_any hT2' (HGE.out _ _ _ hT2 s1) (by have := HT1.out.2.1; omega) hF2)
    have HC2 := Lib.hid hc2
    obtain ⟨sm, hsm⟩ : ∃ sm, sm = (getL L k).isNone := ⟨_, rfl⟩
    rw [← hsm]
    have HSM := Lib.hid hsm
    clear hT2 hT2' hF2 s1 s2 hc2 hsm HPUT
    go_wp2_with fail
    refine HGR.out.mono ?_
    rintro e w3 ⟨nr, hh, mr, rfl, hT3, z1, z2, hc3⟩
    have hc13 := HC2.out.trans hc3
    have hbt := (hc13.block t HLT.out (fun f => f)).trans HCT.out
    have x0 : (w3.cell? ⟨t, 0, none⟩).isSome = true := by rw [blk_cell hbt]; rfl
    obtain ⟨y0, hy0⟩ : ∃ y0, w3.cell? ⟨t, 0, none⟩ = some y0 := ⟨_, by rw [blk_cell hbt]; rfl⟩
    have x1 : w3.frozen? ⟨t, 0, none⟩ = false := blk_frozen hbt
    have x2 : (w3.setCell ⟨t, 0, none⟩ (.pointer (some ⟨nr, 0, none⟩))).cell? ⟨t, 1, none⟩ = some (.int .i64 (n : Int)) := by rw [blk_cell (blk_set hbt _)]; rfl
    have x3 : (w3.setCell ⟨t, 0, none⟩ (.pointer (some ⟨nr, 0, none⟩))).frozen? ⟨t, 1, none⟩ = false := blk_frozen (blk_set hbt _)
    have hFt : ∀ i, (((F1 i ∨ w1.heap.size ≤ i) ∧ i < w2.heap.size) ∨ w2.heap.size ≤ i) → i ≠ t := fun i hi e => by
      have := HLT.out
      have := HC2.out.size
      rcases hi with ⟨q | q, _⟩ | q
      · exact (HT1.out.2.2 i q).2 e
      · omega
      · omega
    have hfin : ∀ (wf : World) (nl : Int), Ch (fun i => i = t) w3 wf → wf.heap[t]? = some (.cells #[.pointer (some ⟨nr, 0, none⟩), .int .i64 nl] 38 (0, 0)) → nl = ((putL13 L k v).length : Int) → (putL13 L k v).length ≤ 1000000 → TPutP w t k v L (.returned (.bool sm)) wf := fun wf nl k1 k2 k3 k4 => by
      refine ⟨hh + 1, by rw [HSM.out, isNone_not], ⟨fun i => ((((F1 i ∨ w1.heap.size ≤ i) ∧ i < w2.heap.size) ∨ w2.heap.size ≤ i)) ∧ i < wf.heap.size, some nr, mr, by rw [k2, k3]; rfl, ?_, fun _ => ⟨z1, z2⟩, rise_put HLR.out.1 k v, fun i hi => ⟨hi.2, hFt i hi.1⟩, k4⟩, ?_⟩
      · exact (hT3.ch k1 fun i hi e => hFt i hi e).mono fun i hi hl => ⟨hi, hl⟩
      · exact ((HCW.out.trans hc13).mono fun _ _ f => f.elim).trans k1
    have HFIN := Lib.hid hfin
    have HBT := Lib.hid hbt
    clear hfin hbt hFt hT3 z1 z2 hc3 hc13 x0
    cases sm with
    | true =>
      have hl : (putL13 L k v).length = L.length + 1 := by rw [putL_len HLR.out.1, show (getL L k).isSome = false by have := HSM.out; revert this; cases getL L k <;> simp]; rfl
      have HE := Lib.hid (HFIN.out ((w3.setCell ⟨t, 0, none⟩ (.pointer (some ⟨nr, 0, none⟩))).setCell ⟨t, 1, none⟩ (.int .i64 ((n : Int) + 1))) ((n : Int) + 1) (((Ch.refl (fun i => i = t) w3).setCell (p := ⟨t, 0, none⟩) (Or.inl rfl) _).setCell (p := ⟨t, 1, none⟩) (Or.inl rfl) _) (by rw [blk_set (blk_set HBT.out _)]; rfl) (by rw [hl, HN.out]; simp) (by rw [hl]; have := HLR.out.2; omega))
      clear hl HFIN
      go_wp2_with fail
      go_ret
      exact HE.out
    | false =>
      have hl : (putL13 L k v).length = L.length := by rw [putL_len HLR.out.1, show (getL L k).isSome = true by have := HSM.out; revert this; cases getL L k <;> simp]; rfl
      have HE := Lib.hid (HFIN.out (w3.setCell ⟨t, 0, none⟩ (.pointer (some ⟨nr, 0, none⟩))) (n : Int) ((Ch.refl (fun i => i = t) w3).setCell (p := ⟨t, 0, none⟩) (Or.inl rfl) _) (by rw [blk_set HBT.out]; rfl) (by rw [hl, HN.out]) (by rw [hl]; have := HLR.out.2; omega))
      clear hl HFIN
      go_wp2_with fail
      go_ret
      exact HE.out
  | succ h =>
    obtain ⟨b, hroot⟩ : ∃ b, root = some b := by obtain ⟨b, _, _, e, _⟩ := hT; exact ⟨b, e⟩
    subst hroot
    have c0 : w.cell? ⟨t, 0, none⟩ = some (.pointer (some ⟨b, 0, none⟩)) := by rw [blk_cell hb]; rfl
    obtain ⟨m1, m2⟩ := hm (Nat.succ_pos _)
    obtain ⟨w1, hw1⟩ : ∃ w1, w1 = w := ⟨_, rfl⟩
    have hcw : Ch (fun _ => False) w w1 := by rw [hw1]; exact Ch.refl _ _
    obtain ⟨F1, hFe⟩ : ∃ F1 : Nat → Prop, F1 = F := ⟨_, rfl⟩
    obtain ⟨h1, hh1⟩ : ∃ h1 : Nat, h1 = h := ⟨_, rfl⟩
    have hT1 : TrIs F1 (h1 + 1) w1 (some b) m L := by rw [hFe, hh1, hw1]; exact hT
    have hm1 : m ≤ 7 := m2
    have hF1 : ∀ i, F1 i → i < w1.heap.size ∧ i ≠ t := by rw [hFe, hw1]; exact hF
    have hge : ∀ (w2 : World) (nb m' : Nat), TrIs (fun i => F1 i ∨ w1.heap.size ≤ i) (h1 + 1) w2 (some nb) m' (putL13 L k v) → m ≤ m' → 1 ≤ m' := fun _ _ _ _ q => Nat.le_trans m1 q
    have hct := (hcw.block t hlt (fun f => f)).trans hb
    have hlt0 := hlt
    have hlt : t < w1.heap.size := Nat.lt_of_lt_of_le hlt0 hcw.size
    have HW1 := Lib.hid hw1
    clear hlt0 hb hw1 hFe hm hF hh1 m1 m2 hT
    go_enter Try.func30, Try.ntmps30
    have HPUT := Lib.hid (nput_any k v (h1 + 1) hT1 hr1 hm1 (fun i hi => (hF1 i hi).1))
    have HT1 := Lib.hid (And.intro hT1 (And.intro hm1 hF1))
    have HGE := Lib.hid hge
    have HCT := Lib.hid hct
    have HCW := Lib.hid hcw
    have HLT := Lib.hid hlt
    clear hT1 hm1 hF1 hge hct hcw hlt
    go_wp2_with fail
    rw [← HW1.out]
    refine HPUT.out.mono ?_
    rintro e w2 ⟨nb, m', rfl, hT2, hc2, s1, s2⟩
    have hF2 : ∀ i, ((F1 i ∨ w1.heap.size ≤ i) ∧ i < w2.heap.size) → i < w2.heap.size := fun i hi => hi.2
    have hT2' : TrIs (fun i => (F1 i ∨ w1.heap.size ≤ i) ∧ i < w2.heap.size) (h1 + 1) w2 (some nb) m' (putL13 L k v) := hT2.mono fun i hi hl => ⟨hi, hl⟩
    have HGR := Lib.hid (grown_any hT2' (HGE.out _ _ _ hT2 s1) (by have := HT1.out.2.1; omega) hF2)
    have HC2 := Lib.hid hc2
    obtain ⟨sm, hsm⟩ : ∃ sm, sm = (getL L k).isNone := ⟨_, rfl⟩
    rw [← hsm]
    have HSM := Lib.hid hsm
    clear hT2 hT2' hF2 s1 s2 hc2 hsm HPUT
    go_wp2_with fail
    refine HGR.out.mono ?_
    rintro e w3 ⟨nr, hh, mr, rfl, hT3, z1, z2, hc3⟩
    have hc13 := HC2.out.trans hc3
    have hbt := (hc13.block t HLT.out (fun f => f)).trans HCT.out
    have x0 : (w3.cell? ⟨t, 0, none⟩).isSome = true := by rw [blk_cell hbt]; rfl
    obtain ⟨y0, hy0⟩ : ∃ y0, w3.cell? ⟨t, 0, none⟩ = some y0 := ⟨_, by rw [blk_cell hbt]; rfl⟩
    have x1 : w3.frozen? ⟨t, 0, none⟩ = false := blk_frozen hbt
    have x2 : (w3.setCell ⟨t, 0, none⟩ (.pointer (some ⟨nr, 0, none⟩))).cell? ⟨t, 1, none⟩ = some (.int .i64 (n : Int)) := by rw [blk_cell (blk_set hbt _)]; rfl
    have x3 : (w3.setCell ⟨t, 0, none⟩ (.pointer (some ⟨nr, 0, none⟩))).frozen? ⟨t, 1, none⟩ = false := blk_frozen (blk_set hbt _)
    have hFt : ∀ i, (((F1 i ∨ w1.heap.size ≤ i) ∧ i < w2.heap.size) ∨ w2.heap.size ≤ i) → i ≠ t := fun i hi e => by
      have := HLT.out
      have := HC2.out.size
      rcases hi with ⟨q | q, _⟩ | q
      · exact (HT1.out.2.2 i q).2 e
      · omega
      · omega
    have hfin : ∀ (wf : World) (nl : Int), Ch (fun i => i = t) w3 wf → wf.heap[t]? = some (.cells #[.pointer (some ⟨nr, 0, none⟩), .int .i64 nl] 38 (0, 0)) → nl = ((putL13 L k v).length : Int) → (putL13 L k v).length ≤ 1000000 → TPutP w t k v L (.returned (.bool sm)) wf := fun wf nl k1 k2 k3 k4 => by
      refine ⟨hh + 1, by rw [HSM.out, isNone_not], ⟨fun i => ((((F1 i ∨ w1.heap.size ≤ i) ∧ i < w2.heap.size) ∨ w2.heap.size ≤ i)) ∧ i < wf.heap.size, some nr, mr, by rw [k2, k3]; rfl, ?_, fun _ => ⟨z1, z2⟩, rise_put HLR.out.1 k v, fun i hi => ⟨hi.2, hFt i hi.1⟩, k4⟩, ?_⟩
      · exact (hT3.ch k1 fun i hi e => hFt i hi e).mono fun i hi hl => ⟨hi, hl⟩
      · exact ((HCW.out.trans hc13).mono fun _ _ f => f.elim).trans k1
    have HFIN := Lib.hid hfin
    have HBT := Lib.hid hbt
    clear hfin hbt hFt hT3 z1 z2 hc3 hc13 x0
    cases sm with
    | true =>
      have hl : (putL13 L k v).length = L.length + 1 := by rw [putL_len HLR.out.1, show (getL L k).isSome = false by have := HSM.out; revert this; cases getL L k <;> simp]; rfl
      have HE := Lib.hid (HFIN.out ((w3.setCell ⟨t, 0, none⟩ (.pointer (some ⟨nr, 0, none⟩))).setCell ⟨t, 1, none⟩ (.int .i64 ((n : Int) + 1))) ((n : Int) + 1) (((Ch.refl (fun i => i = t) w3).setCell (p := ⟨t, 0, none⟩) (Or.inl rfl) _).setCell (p := ⟨t, 1, none⟩) (Or.inl rfl) _) (by rw [blk_set (blk_set HBT.out _)]; rfl) (by rw [hl, HN.out]; simp) (by rw [hl]; have := HLR.out.2; omega))
      clear hl HFIN
      go_wp2_with fail
      go_ret
      exact HE.out
    | false =>
      have hl : (putL13 L k v).length = L.length := by rw [putL_len HLR.out.1, show (getL L k).isSome = true by have := HSM.out; revert this; cases getL L k <;> simp]; rfl
      have HE := Lib.hid (HFIN.out (w3.setCell ⟨t, 0, none⟩ (.pointer (some ⟨nr, 0, none⟩))) (n : Int) ((Ch.refl (fun i => i = t) w3).setCell (p := ⟨t, 0, none⟩) (Or.inl rfl) _) (by rw [blk_set HBT.out]; rfl) (by rw [hl, HN.out]) (by rw [hl]; have := HLR.out.2; omega))
      clear hl HFIN
      go_wp2_with fail
      go_ret
      exact HE.out
#print axioms tput_any
end Go.Proofs.Ytkpahhioiefcbaa
namespace Go.Proofs.Ytkpahhioiefcbaa
open Go.RowKit
set_option linter.unusedVariables false
set_option maxRecDepth 100000
set_option linter.unusedSimpArgs false

theorem delL_none {L : List Kv} {k : ByteArray} (h : getL L k = none) : delL L k = L := by
  refine List.filter_eq_self.2 fun x hx => ?_
  unfold getL at h
  rw [Option.map_eq_none_iff, List.find?_eq_none] at h
  have := h x hx
  rw [Bool.not_eq_true] at this
  rw [this]
  rfl
/-- What Del answers. -/
def TDelP (w : World) (t : Nat) (k : ByteArray) (L : List Kv) (e : Ending) (w' : World) : Prop := ∃ h', e = .returned (.bool (getL L k).isSome) ∧ TreeIs w' t h' (delL L k) ∧ Ch (fun i => i = t) w w'
set_option maxHeartbeats 3200000 in
theorem tdel_any {w : World} {t h : Nat} {L : List Kv} (ht : TreeIs w t h L) (k : ByteArray) : Calls Try.prog 29 #[.pointer (some ⟨t, 0, none⟩), .string k] w (TDelP w t k L) := by
  have HGET := Lib.hid (tget_any ht k)
  have HTR := Lib.hid ht
  obtain ⟨F, root, m, hb, hT, hm, hr, hF, hbig⟩ := ht
  obtain ⟨o, ho⟩ : ∃ o, o = getL L k := ⟨_, rfl⟩
  rw [← ho] at HGET
  have HLR := Lib.hid (And.intro hr hbig)
  cases o with
  | none =>
    have HFIN : Hid (∀ w', Ch (fun _ => False) w w' → TDelP w t k L (.returned (.bool false)) w') := Lib.hid fun w' c => ⟨h, by rw [← ho]; rfl, by rw [delL_none ho.symm]; exact HTR.out.gr c, c.mono fun _ _ f => f.elim⟩
    clear hb hT hm hr hF ho
    go_enter Try.func29, Try.ntmps29
    go_wp2_with fail
    refine HGET.out.mono ?_
    rintro e w1 ⟨rfl, hc1⟩
    have HE := Lib.hid (HFIN.out w1 hc1)
    have hg : gotT none = .tuple #[.string ⟨#[]⟩, .bool false] := rfl
    rw [hg]
    clear hg hc1 HFIN
    go_wp2_with fail
    go_ret
    exact HE.out
  | some x =>
    obtain ⟨h', rfl⟩ : ∃ h', h = h' + 1 := by
      cases h with
      | zero =>
        obtain ⟨_, _, rfl⟩ := hT
        cases ho
      | succ h' => exact ⟨h', rfl⟩
    obtain ⟨b, hroot⟩ : ∃ b, root = some b := by obtain ⟨b, _, _, e, _⟩ := hT; exact ⟨b, e⟩
    subst hroot
    obtain ⟨m1, m2⟩ := hm (Nat.succ_pos _)
    obtain ⟨n, hn⟩ : ∃ n, n = L.length := ⟨_, rfl⟩
    rw [← hn] at hb
    have n1 : (n : Int) ≤ 1000000 := by omega
    have n0 : (0 : Int) ≤ (n : Int) := Int.natCast_nonneg _
    have hlt := blk_lt hb
    have HN := Lib.hid hn
    have HB := Lib.hid hb
    have HT := Lib.hid (And.intro hT (And.intro m1 (And.intro m2 hF)))
    have HO := Lib.hid ho
    have HLT := Lib.hid hlt
    have hdl := delL_len hr k
    rw [← ho] at hdl
    have HDL := Lib.hid (show (delL L k).length + 1 = n by rw [hn]; exact hdl)
    clear hb hT hm hr hF ho m1 m2 hn hlt hdl
    go_enter Try.func29, Try.ntmps29
    go_wp2_with fail
    refine HGET.out.mono ?_
    rintro e w1 ⟨rfl, hc1⟩
    have hg : gotT (some x) = .tuple #[.string x, .bool true] := rfl
    rw [hg]
    have hbt1 := (hc1.block t HLT.out (fun f => f)).trans HB.out
    have c0 : w1.cell? ⟨t, 0, none⟩ = some (.pointer (some ⟨b, 0, none⟩)) := by rw [blk_cell hbt1]; rfl
    have HDELC := Lib.hid (del_any (h' + 1) k (HT.out.1.gr hc1) HLR.out.1 (by rw [← HO.out]; rfl) HT.out.2.1 HT.out.2.2.1 (fun i hi => Nat.lt_of_lt_of_le (HT.out.2.2.2 i hi).1 hc1.size))
    have HC1 := Lib.hid hc1
    have HB1 := Lib.hid hbt1
    clear hg hc1 hbt1
    go_wp2_with fail
    refine HDELC.out.mono ?_
    rintro e w2 ⟨nb, m', rfl, hT2, hc2, s1, s2⟩
    have hT2' : TrIs (fun i => (F i ∨ w1.heap.size ≤ i) ∧ i < w2.heap.size) (h' + 1) w2 (some nb) m' (delL L k) := hT2.mono fun i hi hl => ⟨hi, hl⟩
    have HSH := Lib.hid (shrunk_any hT2' (by have := HT.out; omega))
    have HC2 := Lib.hid hc2
    clear hT2 hT2' s1 s2 hc2 HDELC c0
    go_wp2_with fail
    refine HSH.out.mono ?_
    rintro e w3 ⟨p, h3, m3, rfl, rfl, hT3, z3⟩
    have hbt := (HC2.out.block t (Nat.lt_of_lt_of_le HLT.out HC1.out.size) (fun f => f)).trans HB1.out
    obtain ⟨y0, hy0⟩ : ∃ y0, w3.cell? ⟨t, 0, none⟩ = some y0 := ⟨_, by rw [blk_cell hbt]; rfl⟩
    have x1 : w3.frozen? ⟨t, 0, none⟩ = false := blk_frozen hbt
    obtain ⟨a, hpa⟩ : ∃ a, ptrV p = .pointer a := by cases p <;> exact ⟨_, rfl⟩
    have x2 : (w3.setCell ⟨t, 0, none⟩ (.pointer a)).cell? ⟨t, 1, none⟩ = some (.int .i64 (n : Int)) := by rw [blk_cell (blk_set hbt _)]; rfl
    have x3 : (w3.setCell ⟨t, 0, none⟩ (.pointer a)).frozen? ⟨t, 1, none⟩ = false := blk_frozen (blk_set hbt _)
    have hFt : ∀ i, ((F i ∨ w1.heap.size ≤ i) ∧ i < w3.heap.size) → i ≠ t := fun i hi e => by
      have := HLT.out
      have := HC1.out.size
      rcases hi.1 with q | q
      · exact (HT.out.2.2.2 i q).2 e
      · omega
    have k1 : Ch (fun i => i = t) w3 ((w3.setCell ⟨t, 0, none⟩ (.pointer a)).setCell ⟨t, 1, none⟩ (.int .i64 ((n : Int) - 1))) := ((Ch.refl (fun i => i = t) w3).setCell (p := ⟨t, 0, none⟩) (Or.inl rfl) _).setCell (p := ⟨t, 1, none⟩) (Or.inl rfl) _
    have hfin : TDelP w t k L (.returned (.bool true)) ((w3.setCell ⟨t, 0, none⟩ (.pointer a)).setCell ⟨t, 1, none⟩ (.int .i64 ((n : Int) - 1))) := by
      refine ⟨h3, by rw [← HO.out]; rfl, ⟨_, p, m3, ?_, hT3.ch k1 fun i hi e => hFt i hi e, z3, rise_del HLR.out.1 k, fun i hi => ⟨Nat.lt_of_lt_of_le hi.2 k1.size, hFt i hi⟩, by have := HDL.out; omega⟩, ((HC1.out.trans HC2.out).mono fun _ _ f => f.elim).trans k1⟩
      rw [blk_set (blk_set hbt _), hpa]
      have : (n : Int) - 1 = ((delL L k).length : Int) := by have := HDL.out; omega
      rw [this]
      rfl
    have HFIN := Lib.hid hfin
    rw [hpa]
    clear hbt hpa hFt k1 hfin hT3 z3 HSH
    go_wp2_with fail
    go_ret
    exact HFIN.out
#print axioms tdel_any
end Go.Proofs.Ytkpahhioiefcbaa
namespace Go.Proofs.Ytkpahhioiefcbaa
open Go.RowKit
set_option linter.unusedVariables false
set_option maxRecDepth 100000
set_option linter.unusedSimpArgs false
attribute [local go_sem] Oper.semAt_some wide_fn wide_depth

/-- A type of a tree's own blocks. -/
def TTy (t : TypeId) : Prop := t = 93 ∨ t = 89 ∨ t = 36
def Typ (W : World) (i : Nat) : Prop := ∃ (c : Array Value) (t : TypeId) (f : Nat × Nat), TTy t ∧ W.heap[i]? = some (.cells c t f)
/-- Trees' blocks stay. -/
def KpT (W W' : World) : Prop := ∀ (i : Nat) (c : Array Value) (t : TypeId) (f : Nat × Nat), TTy t → W.heap[i]? = some (.cells c t f) → W'.heap[i]? = some (.cells c t f)
theorem KpT.refl (W : World) : KpT W W := fun _ _ _ _ _ h => h
theorem KpT.trans {A B C : World} (h : KpT A B) (k : KpT B C) : KpT A C := fun i c t f ht hc => k i c t f ht (h i c t f ht hc)
theorem KpT.put {l : Nat} {W : World} {o o' : Obj} (ho : W.heap[l]? = some o) (hc : o.isCells = false) : KpT W (W.putObj l o') := fun i c t f _ h => (World.putObj_heap_other (fun e => by
  rw [e] at h; rw [h] at ho; cases ho; cases hc)).trans h
theorem KpT.of {S : Nat → Prop} {W W' : World} (h : Ch S W W') (hS : ∀ (i : Nat) (c : Array Value) (t : TypeId) (f : Nat × Nat), S i → W.heap[i]? = some (.cells c t f) → ¬ TTy t) : KpT W W' := fun i c t f ht hc => (h.block i (blk_lt hc) fun s => hS i c t f s hc ht).trans hc
theorem KpT.gr {W W' : World} (h : Ch (fun _ => False) W W') : KpT W W' := KpT.of h fun _ _ _ _ f => f.elim
theorem RowF.keep {α : Type} {F : Nat → Prop} {K : Kf α} (hK : K.Ok) {w w' : World} {A : Option Addr} {C : Nat} {L : List α} (h : RowF F K w A C L) (s : ∀ i, F i → w'.heap[i]? = w.heap[i]?) : RowF F K w' A C L := by
  refine ⟨⟨h.v.le, h.v.cap, fun h0 => ?_⟩, h.f, fun hL b o e => ?_⟩
  · obtain ⟨b, o, hA, hc⟩ := h.v.at' h0
    have hL : L ≠ [] := fun e => by rw [e] at h0; cases h0
    exact ⟨b, o, hA, fun i x hx j u hu => (World.cell?_of_block (s b (h.f hL b o hA))).trans (hc i x hx j u hu)⟩
  · obtain ⟨c, fr, hc⟩ := h.ty hL b o e
    exact ⟨c, fr, (s b (h.f hL b o e)).trans hc⟩
theorem NdAt.keep {F : Nat → Prop} {w w' : World} {b : Nat} {ps : List Kv} {cs : List Nat} (h : NdAt F w b ps cs) (s : ∀ i, F i → w'.heap[i]? = w.heap[i]?) : NdAt F w' b ps cs := by
  obtain ⟨hb, A, C, A2, C2, h1, h2, h3⟩ := h
  exact ⟨hb, A, C, A2, C2, (s b hb).trans h1, h2.keep kdPr_ok s, h3.keep kdNd_ok s⟩
theorem TrIs.keep {F : Nat → Prop} {w w' : World} (s : ∀ i, F i → w'.heap[i]? = w.heap[i]?) : ∀ {h : Nat} {p : Option Nat} {m : Nat} {L : List Kv}, TrIs F h w p m L → TrIs F h w' p m L
  | 0, _, _, _, q => q
  | h + 1, p, m, L, ⟨b, ps, cs, e, h1, h2, h3⟩ => ⟨b, ps, cs, e, h1.keep s, h2, h3.imp fun _ _ _ q => TrIs.keep s q⟩
theorem NdAt.typ {F : Nat → Prop} {w : World} {b : Nat} {ps : List Kv} {cs : List Nat} (h : NdAt F w b ps cs) : NdAt (Typ w) w b ps cs := by
  obtain ⟨hb, A, C, A2, C2, h1, h2, h3⟩ := h
  refine ⟨⟨_, _, _, Or.inr (Or.inl rfl), h1⟩, A, C, A2, C2, h1, ⟨h2.v, fun hL b o e => ?_, h2.ty⟩, ⟨h3.v, fun hL b o e => ?_, h3.ty⟩⟩
  · obtain ⟨c, fr, hc⟩ := h2.ty hL b o e
    exact ⟨_, _, _, Or.inl rfl, hc⟩
  · obtain ⟨c, fr, hc⟩ := h3.ty hL b o e
    exact ⟨_, _, _, Or.inr (Or.inr rfl), hc⟩
theorem TrIs.typ {F : Nat → Prop} {w : World} : ∀ {h : Nat} {p : Option Nat} {m : Nat} {L : List Kv}, TrIs F h w p m L → TrIs (Typ w) h w p m L
  | 0, _, _, _, q => q
  | h + 1, p, m, L, ⟨b, ps, cs, e, h1, h2, h3⟩ => ⟨b, ps, cs, e, h1.typ, h2, h3.imp fun _ _ _ q => TrIs.typ q⟩
/-- A tree, whose blocks are known by their types. -/
def TrT (h : Nat) (w : World) (p : Option Nat) (m : Nat) (L : List Kv) : Prop := TrIs (Typ w) h w p m L
theorem TrT.kp {W V : World} (k : KpT W V) {h : Nat} {p : Option Nat} {m : Nat} {L : List Kv} (q : TrT h W p m L) : TrT h V p m L :=
  (TrIs.keep (fun i hi => by
    obtain ⟨c, t, f, ht, hc⟩ := hi
    rw [hc, k i c t f ht hc]) q).mono fun i hi _ => by
    obtain ⟨c, t, f, ht, hc⟩ := hi
    exact ⟨c, t, f, ht, k i c t f ht hc⟩
theorem roundIn_n {n m : Nat} {l : Nat} {f : FuncId} {tmps : Array Value} {assign body : Code} {w : World} {R : Ending → World → Prop} (h : RoundIn Fence.wide n Try.prog l f tmps assign body w R) : RoundIn Fence.wide m Try.prog l f tmps assign body w R :=
  ⟨h.1, fun c cs hr => h.2 c cs (by intro d hd; cases hd)⟩
theorem yieldAt_n {n m : Nat} {l : Nat} {args : Array Value} {w : World} {R : Ending → World → Prop} (h : YieldAt Fence.wide n Try.prog l args w R) : YieldAt Fence.wide m Try.prog l args w R := by
  obtain ⟨fn, tmps, assign, body, hy, hR⟩ := h
  exact ⟨fn, tmps, assign, body, hy, roundIn_n hR⟩
#print axioms yieldAt_n
/-- A node's children, one for each gap. -/
theorem kids_view {P : Option Nat → Nat → List Kv → Prop} {h : Nat} {ps : List Kv} {cs : List Nat} {L : List Kv} (k : KidsP P h ps cs L) (h0 : h = 0 → P none 0 []) : ∃ Ls : List (List Kv), Ls.length = ps.length + 1 ∧ L = flat ps Ls ∧ ∀ j l, Ls[j]? = some l → (cs = [] ∨ j < cs.length) ∧ ∃ m, (0 < h → 1 ≤ m ∧ m ≤ 7) ∧ P cs[j]? m l := by
  rcases k with ⟨e1, e2, e3⟩ | ⟨e1, Ls, e2, e3, e4⟩
  · refine ⟨List.replicate (ps.length + 1) [], by simp, ?_, fun j l hj => ⟨Or.inl e2, 0, fun f => by omega, ?_⟩⟩
    · rw [e3, flat_leaf ps _ (fun l hl => List.eq_of_mem_replicate hl)]
    · have hm := List.eq_of_mem_replicate (List.mem_of_getElem? hj)
      rw [hm, e2]
      exact h0 e1
  · refine ⟨Ls, e2, e3, fun j l hj => ?_⟩
    have hl := e4.len
    have hjl : j < cs.length := by rw [hl]; exact (List.getElem?_eq_some_iff.1 hj).1
    obtain ⟨l1, c, l2, m1, y, m2, q1, q2, q3, q4, _, ⟨m, m3, m7, hp⟩, _⟩ := e4.split j hjl
    have hc : cs[j]? = some c := by rw [q1, List.getElem?_append_right (by omega)]; simp [q3]
    have hy : y = l := by
      rw [q2, List.getElem?_append_right (by omega)] at hj
      simp [q4] at hj
      exact hj
    exact ⟨Or.inr hjl, m, fun _ => ⟨by omega, m7⟩, by rw [hc, ← hy]; exact hp⟩
end Go.Proofs.Ytkpahhioiefcbaa
