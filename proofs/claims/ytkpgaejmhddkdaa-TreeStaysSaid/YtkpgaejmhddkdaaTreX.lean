/-
  The tree itself: Put, Del.
-/
import Derived.Test.YtkpgaejmhddkdaaTreW
namespace Go.Proofs.Ytkpgaejmhddkdaa
open Go.RowKit
set_option linter.unusedVariables false
set_option maxRecDepth 100000
set_option linter.unusedSimpArgs false

theorem isNone_not (o : Option Int) : o.isNone = !o.isSome := by cases o <;> rfl
/-- What Put answers. -/
def TPutP (w : World) (t : Nat) (k : ByteArray) (v : Int) (L : List Kv) (e : Ending) (w' : World) : Prop := ∃ h', e = .returned (.bool (!(getL L k).isSome)) ∧ TreeIs w' t h' (putL13 L k v) ∧ Ch (fun i => i = t) w w'
set_option maxHeartbeats 3200000 in
theorem tput_any {w : World} {t h : Nat} {L : List Kv} (ht : TreeIs w t h L) (k : ByteArray) (v : Int) (hL : L.length ≤ 100000) : Calls Try.prog 23 #[.pointer (some ⟨t, 0, none⟩), .string k, .int .i64 v] w (TPutP w t k v L) := by
  obtain ⟨F, root, m, hb, hT, hm, hr, hF, _⟩ := ht
  have hr1 := hr
  have HLR := Lib.hid (And.intro hr hL)
  obtain ⟨n, hn⟩ : ∃ n, n = L.length := ⟨_, rfl⟩
  rw [← hn] at hb
  have HN := Lib.hid hn
  have n1 : (n : Int) ≤ 100000 := by omega
  have n0 : (0 : Int) ≤ (n : Int) := Int.natCast_nonneg _
  have hlt := blk_lt hb
  clear hr hL hn
  cases h with
  | zero =>
    obtain ⟨rfl, rfl, hLe⟩ := hT
    have c0 : w.cell? ⟨t, 0, none⟩ = some (.pointer none) := by rw [blk_cell hb]; rfl
    obtain ⟨w1, hw1⟩ : ∃ w1, w1 = w.alloc (.cells #[.slice none 0 0, .slice none 0 0] 60) := ⟨_, rfl⟩
    have hcw : Ch (fun _ => False) w w1 := by rw [hw1]; exact (Ch.refl _ w).alloc _ _
    have hnb : w1.heap[w.heap.size]? = some (.cells #[.slice none 0 0, .slice none 0 0] 60 (0, 0)) := by rw [hw1]; exact heap_alloc_new w _
    obtain ⟨F1, hFe⟩ : ∃ F1 : Nat → Prop, F1 = fun i => i = w.heap.size := ⟨_, rfl⟩
    obtain ⟨h1, hh1⟩ : ∃ h1 : Nat, h1 = 0 := ⟨_, rfl⟩
    have hT1 : TrIs F1 (h1 + 1) w1 (some w.heap.size) 0 L := by
      rw [hFe, hh1, hLe]
      exact ⟨w.heap.size, [], [], rfl, ⟨rfl, none, 0, none, 0, hnb, ⟨flV_none _ _ _, fun q => absurd rfl q, fun q => absurd rfl q⟩, ⟨flV_none _ _ _, fun q => absurd rfl q, fun q => absurd rfl q⟩⟩, rfl, Or.inl ⟨rfl, rfl, rfl⟩⟩
    have hm1 : 0 ≤ 7 := Nat.zero_le _
    have hF1 : ∀ i, F1 i → i < w1.heap.size ∧ i ≠ t := fun i hi => by
      rw [hFe] at hi
      have hi : i = w.heap.size := hi
      subst hi
      exact ⟨blk_lt hnb, (Nat.ne_of_lt hlt).symm⟩
    have hge : ∀ (w2 : World) (nb m' : Nat), TrIs (fun i => F1 i ∨ w1.heap.size ≤ i) (h1 + 1) w2 (some nb) m' (putL13 L k v) → 0 ≤ m' → 1 ≤ m' := fun w2 nb m' q _ => by
      rw [hh1, hLe] at q
      obtain ⟨_, ps, _, _, _, e1, e2⟩ := q
      rcases e2 with ⟨_, _, e3⟩ | ⟨e, _⟩
      · have := congrArg List.length e3
        rw [e1, ← this]
        simp [putL13]
      · exact absurd e (Nat.lt_irrefl 0)
    have hct := (hcw.block t hlt (fun f => f)).trans hb
    have hlt0 := hlt
    have hlt : t < w1.heap.size := Nat.lt_of_lt_of_le hlt0 hcw.size
    have HW1 := Lib.hid hw1
    have HH1 := Lib.hid hh1
    clear hlt0 hb hw1 hnb hFe hm hF hh1 hLe
    go_enter Try.func23, Try.ntmps23
    have HPUT := Lib.hid (put_any k v (h1 + 1) hT1 hr1 hm1 (fun i hi => (hF1 i hi).1))
    have HT1 := Lib.hid (And.intro hT1 (And.intro hm1 hF1))
    have HGE := Lib.hid hge
    have HCT := Lib.hid hct
    have HCW := Lib.hid hcw
    have HLT := Lib.hid hlt
    clear hT1 hm1 hF1 hge hct hcw hlt
    go_wp2_with fail
    rw [← HW1.out]
    refine HPUT.out.mono ?_
    rintro e w2 ⟨nb, m', rfl, hT2, hc2, s1, s2⟩
    have hF2 : ∀ i, ((F1 i ∨ w1.heap.size ≤ i) ∧ i < w2.heap.size) → i < w2.heap.size := fun i hi => hi.2
    have hT2' : TrIs (fun i => (F1 i ∨ w1.heap.size ≤ i) ∧ i < w2.heap.size) (h1 + 1) w2 (some nb) m' (putL13 L k v) := hT2.mono fun i hi hl => ⟨hi, hl⟩
    have HGR := Lib.hid (grown_any hT2' (HGE.out _ _ _ hT2 s1) (by have := HT1.out.2.1; omega) hF2)
    have HC2 := Lib.hid hc2
    obtain ⟨sm, hsm⟩ : ∃ sm, sm = (getL L k).isNone := ⟨_, rfl⟩
    rw [← hsm]
    have HSM := Lib.hid hsm
    clear hT2 hT2' hF2 s1 s2 hc2 hsm HPUT
    go_wp2_with fail
    refine HGR.out.mono ?_
    rintro e w3 ⟨nr, hh, mr, rfl, hT3, z1, z2, hc3⟩
    have hc13 := HC2.out.trans hc3
    have hbt := (hc13.block t HLT.out (fun f => f)).trans HCT.out
    have x0 : (w3.cell? ⟨t, 0, none⟩).isSome = true := by rw [blk_cell hbt]; rfl
    obtain ⟨y0, hy0⟩ : ∃ y0, w3.cell? ⟨t, 0, none⟩ = some y0 := ⟨_, by rw [blk_cell hbt]; rfl⟩
    have x1 : w3.frozen? ⟨t, 0, none⟩ = false := blk_frozen hbt
    have x2 : (w3.setCell ⟨t, 0, none⟩ (.pointer (some ⟨nr, 0, none⟩))).cell? ⟨t, 1, none⟩ = some (.int .i64 (n : Int)) := by rw [blk_cell (blk_set hbt _)]; rfl
    have x3 : (w3.setCell ⟨t, 0, none⟩ (.pointer (some ⟨nr, 0, none⟩))).frozen? ⟨t, 1, none⟩ = false := blk_frozen (blk_set hbt _)
    have hFt : ∀ i, (((F1 i ∨ w1.heap.size ≤ i) ∧ i < w2.heap.size) ∨ w2.heap.size ≤ i) → i ≠ t := fun i hi e => by
      have := HLT.out
      have := HC2.out.size
      rcases hi with ⟨q | q, _⟩ | q
      · exact (HT1.out.2.2 i q).2 e
      · omega
      · omega
    have hfin : ∀ (wf : World) (nl : Int), Ch (fun i => i = t) w3 wf → wf.heap[t]? = some (.cells #[.pointer (some ⟨nr, 0, none⟩), .int .i64 nl] 28 (0, 0)) → nl = ((putL13 L k v).length : Int) → (putL13 L k v).length ≤ 1000000 → TPutP w t k v L (.returned (.bool sm)) wf := fun wf nl k1 k2 k3 k4 => by
      refine ⟨hh + 1, by rw [HSM.out, isNone_not], ⟨fun i => ((((F1 i ∨ w1.heap.size ≤ i) ∧ i < w2.heap.size) ∨ w2.heap.size ≤ i)) ∧ i < wf.heap.size, some nr, mr, by rw [k2, k3]; rfl, ?_, fun _ => ⟨z1, z2⟩, rise_put HLR.out.1 k v, fun i hi => ⟨hi.2, hFt i hi.1⟩, k4⟩, ?_⟩
      · exact (hT3.ch k1 fun i hi e => hFt i hi e).mono fun i hi hl => ⟨hi, hl⟩
      · exact ((HCW.out.trans hc13).mono fun _ _ f => f.elim).trans k1
    have HFIN := Lib.hid hfin
    have HBT := Lib.hid hbt
    clear hfin hbt hFt hT3 z1 z2 hc3 hc13 x0
    cases sm with
    | true =>
      have hl : (putL13 L k v).length = L.length + 1 := by rw [putL_len HLR.out.1, show (getL L k).isSome = false by have := HSM.out; revert this; cases getL L k <;> simp]; rfl
      have HE := Lib.hid (HFIN.out ((w3.setCell ⟨t, 0, none⟩ (.pointer (some ⟨nr, 0, none⟩))).setCell ⟨t, 1, none⟩ (.int .i64 ((n : Int) + 1))) ((n : Int) + 1) (((Ch.refl (fun i => i = t) w3).setCell (p := ⟨t, 0, none⟩) (Or.inl rfl) _).setCell (p := ⟨t, 1, none⟩) (Or.inl rfl) _) (by rw [blk_set (blk_set HBT.out _)]; rfl) (by rw [hl, HN.out]; simp) (by rw [hl]; have := HLR.out.2; omega))
      clear hl HFIN
      go_wp2_with fail
      go_ret
      exact HE.out
    | false =>
      have hl : (putL13 L k v).length = L.length := by rw [putL_len HLR.out.1, show (getL L k).isSome = true by have := HSM.out; revert this; cases getL L k <;> simp]; rfl
      have HE := Lib.hid (HFIN.out (w3.setCell ⟨t, 0, none⟩ (.pointer (some ⟨nr, 0, none⟩))) (n : Int) ((Ch.refl (fun i => i = t) w3).setCell (p := ⟨t, 0, none⟩) (Or.inl rfl) _) (by rw [blk_set HBT.out]; rfl) (by rw [hl, HN.out]) (by rw [hl]; have := HLR.out.2; omega))
      clear hl HFIN
      go_wp2_with fail
      go_ret
      exact HE.out
  | succ h =>
    obtain ⟨b, hroot⟩ : ∃ b, root = some b := by obtain ⟨b, _, _, e, _⟩ := hT; exact ⟨b, e⟩
    subst hroot
    have c0 : w.cell? ⟨t, 0, none⟩ = some (.pointer (some ⟨b, 0, none⟩)) := by rw [blk_cell hb]; rfl
    obtain ⟨m1, m2⟩ := hm (Nat.succ_pos _)
    obtain ⟨w1, hw1⟩ : ∃ w1, w1 = w := ⟨_, rfl⟩
    have hcw : Ch (fun _ => False) w w1 := by rw [hw1]; exact Ch.refl _ _
    obtain ⟨F1, hFe⟩ : ∃ F1 : Nat → Prop, F1 = F := ⟨_, rfl⟩
    obtain ⟨h1, hh1⟩ : ∃ h1 : Nat, h1 = h := ⟨_, rfl⟩
    have hT1 : TrIs F1 (h1 + 1) w1 (some b) m L := by rw [hFe, hh1, hw1]; exact hT
    have hm1 : m ≤ 7 := m2
    have hF1 : ∀ i, F1 i → i < w1.heap.size ∧ i ≠ t := by rw [hFe, hw1]; exact hF
    have hge : ∀ (w2 : World) (nb m' : Nat), TrIs (fun i => F1 i ∨ w1.heap.size ≤ i) (h1 + 1) w2 (some nb) m' (putL13 L k v) → m ≤ m' → 1 ≤ m' := fun _ _ _ _ q => Nat.le_trans m1 q
    have hct := (hcw.block t hlt (fun f => f)).trans hb
    have hlt0 := hlt
    have hlt : t < w1.heap.size := Nat.lt_of_lt_of_le hlt0 hcw.size
    have HW1 := Lib.hid hw1
    clear hlt0 hb hw1 hFe hm hF hh1 m1 m2 hT
    go_enter Try.func23, Try.ntmps23
    have HPUT := Lib.hid (put_any k v (h1 + 1) hT1 hr1 hm1 (fun i hi => (hF1 i hi).1))
    have HT1 := Lib.hid (And.intro hT1 (And.intro hm1 hF1))
    have HGE := Lib.hid hge
    have HCT := Lib.hid hct
    have HCW := Lib.hid hcw
    have HLT := Lib.hid hlt
    clear hT1 hm1 hF1 hge hct hcw hlt
    go_wp2_with fail
    rw [← HW1.out]
    refine HPUT.out.mono ?_
    rintro e w2 ⟨nb, m', rfl, hT2, hc2, s1, s2⟩
    have hF2 : ∀ i, ((F1 i ∨ w1.heap.size ≤ i) ∧ i < w2.heap.size) → i < w2.heap.size := fun i hi => hi.2
    have hT2' : TrIs (fun i => (F1 i ∨ w1.heap.size ≤ i) ∧ i < w2.heap.size) (h1 + 1) w2 (some nb) m' (putL13 L k v) := hT2.mono fun i hi hl => ⟨hi, hl⟩
    have HGR := Lib.hid (grown_any hT2' (HGE.out _ _ _ hT2 s1) (by have := HT1.out.2.1; omega) hF2)
    have HC2 := Lib.hid hc2
    obtain ⟨sm, hsm⟩ : ∃ sm, sm = (getL L k).isNone := ⟨_, rfl⟩
    rw [← hsm]
    have HSM := Lib.hid hsm
    clear hT2 hT2' hF2 s1 s2 hc2 hsm HPUT
    go_wp2_with fail
    refine HGR.out.mono ?_
    rintro e w3 ⟨nr, hh, mr, rfl, hT3, z1, z2, hc3⟩
    have hc13 := HC2.out.trans hc3
    have hbt := (hc13.block t HLT.out (fun f => f)).trans HCT.out
    have x0 : (w3.cell? ⟨t, 0, none⟩).isSome = true := by rw [blk_cell hbt]; rfl
    obtain ⟨y0, hy0⟩ : ∃ y0, w3.cell? ⟨t, 0, none⟩ = some y0 := ⟨_, by rw [blk_cell hbt]; rfl⟩
    have x1 : w3.frozen? ⟨t, 0, none⟩ = false := blk_frozen hbt
    have x2 : (w3.setCell ⟨t, 0, none⟩ (.pointer (some ⟨nr, 0, none⟩))).cell? ⟨t, 1, none⟩ = some (.int .i64 (n : Int)) := by rw [blk_cell (blk_set hbt _)]; rfl
    have x3 : (w3.setCell ⟨t, 0, none⟩ (.pointer (some ⟨nr, 0, none⟩))).frozen? ⟨t, 1, none⟩ = false := blk_frozen (blk_set hbt _)
    have hFt : ∀ i, (((F1 i ∨ w1.heap.size ≤ i) ∧ i < w2.heap.size) ∨ w2.heap.size ≤ i) → i ≠ t := fun i hi e => by
      have := HLT.out
      have := HC2.out.size
      rcases hi with ⟨q | q, _⟩ | q
      · exact (HT1.out.2.2 i q).2 e
      · omega
      · omega
    have hfin : ∀ (wf : World) (nl : Int), Ch (fun i => i = t) w3 wf → wf.heap[t]? = some (.cells #[.pointer (some ⟨nr, 0, none⟩), .int .i64 nl] 28 (0, 0)) → nl = ((putL13 L k v).length : Int) → (putL13 L k v).length ≤ 1000000 → TPutP w t k v L (.returned (.bool sm)) wf := fun wf nl k1 k2 k3 k4 => by
      refine ⟨hh + 1, by rw [HSM.out, isNone_not], ⟨fun i => ((((F1 i ∨ w1.heap.size ≤ i) ∧ i < w2.heap.size) ∨ w2.heap.size ≤ i)) ∧ i < wf.heap.size, some nr, mr, by rw [k2, k3]; rfl, ?_, fun _ => ⟨z1, z2⟩, rise_put HLR.out.1 k v, fun i hi => ⟨hi.2, hFt i hi.1⟩, k4⟩, ?_⟩
      · exact (hT3.ch k1 fun i hi e => hFt i hi e).mono fun i hi hl => ⟨hi, hl⟩
      · exact ((HCW.out.trans hc13).mono fun _ _ f => f.elim).trans k1
    have HFIN := Lib.hid hfin
    have HBT := Lib.hid hbt
    clear hfin hbt hFt hT3 z1 z2 hc3 hc13 x0
    cases sm with
    | true =>
      have hl : (putL13 L k v).length = L.length + 1 := by rw [putL_len HLR.out.1, show (getL L k).isSome = false by have := HSM.out; revert this; cases getL L k <;> simp]; rfl
      have HE := Lib.hid (HFIN.out ((w3.setCell ⟨t, 0, none⟩ (.pointer (some ⟨nr, 0, none⟩))).setCell ⟨t, 1, none⟩ (.int .i64 ((n : Int) + 1))) ((n : Int) + 1) (((Ch.refl (fun i => i = t) w3).setCell (p := ⟨t, 0, none⟩) (Or.inl rfl) _).setCell (p := ⟨t, 1, none⟩) (Or.inl rfl) _) (by rw [blk_set (blk_set HBT.out _)]; rfl) (by rw [hl, HN.out]; simp) (by rw [hl]; have := HLR.out.2; omega))
      clear hl HFIN
      go_wp2_with fail
      go_ret
      exact HE.out
    | false =>
      have hl : (putL13 L k v).length = L.length := by rw [putL_len HLR.out.1, show (getL L k).isSome = true by have := HSM.out; revert this; cases getL L k <;> simp]; rfl
      have HE := Lib.hid (HFIN.out (w3.setCell ⟨t, 0, none⟩ (.pointer (some ⟨nr, 0, none⟩))) (n : Int) ((Ch.refl (fun i => i = t) w3).setCell (p := ⟨t, 0, none⟩) (Or.inl rfl) _) (by rw [blk_set HBT.out]; rfl) (by rw [hl, HN.out]) (by rw [hl]; have := HLR.out.2; omega))
      clear hl HFIN
      go_wp2_with fail
      go_ret
      exact HE.out
#print axioms tput_any
end Go.Proofs.Ytkpgaejmhddkdaa
