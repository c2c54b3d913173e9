/-
  The tree itself: Del.
-/
import Derived.Test.YtkpgaejmhddkdaaTreX
namespace Go.Proofs.Ytkpgaejmhddkdaa
open Go.RowKit
set_option linter.unusedVariables false
set_option maxRecDepth 100000
set_option linter.unusedSimpArgs false

theorem delL_none {L : List Kv} {k : ByteArray} (h : getL L k = none) : delL L k = L := by
  refine List.filter_eq_self.2 fun x hx => ?_
  unfold getL at h
  rw [Option.map_eq_none_iff, List.find?_eq_none] at h
  have := h x hx
  rw [Bool.not_eq_true] at this
  rw [this]
  rfl
/-- What Del answers. -/
def TDelP (w : World) (t : Nat) (k : ByteArray) (L : List Kv) (e : Ending) (w' : World) : Prop := ∃ h', e = .returned (.bool (getL L k).isSome) ∧ TreeIs w' t h' (delL L k) ∧ Ch (fun i => i = t) w w'
set_option maxHeartbeats 3200000 in
theorem tdel_any {w : World} {t h : Nat} {L : List Kv} (ht : TreeIs w t h L) (k : ByteArray) : Calls Try.prog 22 #[.pointer (some ⟨t, 0, none⟩), .string k] w (TDelP w t k L) := by
  have HGET := Lib.hid (tget_any ht k)
  have HTR := Lib.hid ht
  obtain ⟨F, root, m, hb, hT, hm, hr, hF, hbig⟩ := ht
  obtain ⟨o, ho⟩ : ∃ o, o = getL L k := ⟨_, rfl⟩
  rw [← ho] at HGET
  have HLR := Lib.hid (And.intro hr hbig)
  cases o with
  | none =>
    have HFIN : Hid (∀ w', Ch (fun _ => False) w w' → TDelP w t k L (.returned (.bool false)) w') := Lib.hid fun w' c => ⟨h, by rw [← ho]; rfl, by rw [delL_none ho.symm]; exact HTR.out.gr c, c.mono fun _ _ f => f.elim⟩
    clear hb hT hm hr hF ho
    go_enter Try.func22, Try.ntmps22
    go_wp2_with fail
    refine HGET.out.mono ?_
    rintro e w1 ⟨rfl, hc1⟩
    have HE := Lib.hid (HFIN.out w1 hc1)
    have hg : gotT none = .tuple #[.int .i64 0, .bool false] := rfl
    rw [hg]
    clear hg hc1 HFIN
    go_wp2_with fail
    go_ret
    exact HE.out
  | some x =>
    obtain ⟨h', rfl⟩ : ∃ h', h = h' + 1 := by
      cases h with
      | zero =>
        obtain ⟨_, _, rfl⟩ := hT
        cases ho
      | succ h' => exact ⟨h', rfl⟩
    obtain ⟨b, hroot⟩ : ∃ b, root = some b := by obtain ⟨b, _, _, e, _⟩ := hT; exact ⟨b, e⟩
    subst hroot
    obtain ⟨m1, m2⟩ := hm (Nat.succ_pos _)
    obtain ⟨n, hn⟩ : ∃ n, n = L.length := ⟨_, rfl⟩
    rw [← hn] at hb
    have n1 : (n : Int) ≤ 1000000 := by omega
    have n0 : (0 : Int) ≤ (n : Int) := Int.natCast_nonneg _
    have hlt := blk_lt hb
    have HN := Lib.hid hn
    have HB := Lib.hid hb
    have HT := Lib.hid (And.intro hT (And.intro m1 (And.intro m2 hF)))
    have HO := Lib.hid ho
    have HLT := Lib.hid hlt
    have hdl := delL_len hr k
    rw [← ho] at hdl
    have HDL := Lib.hid (show (delL L k).length + 1 = n by rw [hn]; exact hdl)
    clear hb hT hm hr hF ho m1 m2 hn hlt hdl
    go_enter Try.func22, Try.ntmps22
    go_wp2_with fail
    refine HGET.out.mono ?_
    rintro e w1 ⟨rfl, hc1⟩
    have hg : gotT (some x) = .tuple #[.int .i64 x, .bool true] := rfl
    rw [hg]
    have hbt1 := (hc1.block t HLT.out (fun f => f)).trans HB.out
    have c0 : w1.cell? ⟨t, 0, none⟩ = some (.pointer (some ⟨b, 0, none⟩)) := by rw [blk_cell hbt1]; rfl
    have HDELC := Lib.hid (del_any (h' + 1) k (HT.out.1.gr hc1) HLR.out.1 (by rw [← HO.out]; rfl) HT.out.2.1 HT.out.2.2.1 (fun i hi => Nat.lt_of_lt_of_le (HT.out.2.2.2 i hi).1 hc1.size))
    have HC1 := Lib.hid hc1
    have HB1 := Lib.hid hbt1
    clear hg hc1 hbt1
    go_wp2_with fail
    refine HDELC.out.mono ?_
    rintro e w2 ⟨nb, m', rfl, hT2, hc2, s1, s2⟩
    have hT2' : TrIs (fun i => (F i ∨ w1.heap.size ≤ i) ∧ i < w2.heap.size) (h' + 1) w2 (some nb) m' (delL L k) := hT2.mono fun i hi hl => ⟨hi, hl⟩
    have HSH := Lib.hid (shrunk_any hT2' (by have := HT.out; omega))
    have HC2 := Lib.hid hc2
    clear hT2 hT2' s1 s2 hc2 HDELC c0
    go_wp2_with fail
    refine HSH.out.mono ?_
    rintro e w3 ⟨p, h3, m3, rfl, rfl, hT3, z3⟩
    have hbt := (HC2.out.block t (Nat.lt_of_lt_of_le HLT.out HC1.out.size) (fun f => f)).trans HB1.out
    obtain ⟨y0, hy0⟩ : ∃ y0, w3.cell? ⟨t, 0, none⟩ = some y0 := ⟨_, by rw [blk_cell hbt]; rfl⟩
    have x1 : w3.frozen? ⟨t, 0, none⟩ = false := blk_frozen hbt
    obtain ⟨a, hpa⟩ : ∃ a, ptrV p = .pointer a := by cases p <;> exact ⟨_, rfl⟩
    have x2 : (w3.setCell ⟨t, 0, none⟩ (.pointer a)).cell? ⟨t, 1, none⟩ = some (.int .i64 (n : Int)) := by rw [blk_cell (blk_set hbt _)]; rfl
    have x3 : (w3.setCell ⟨t, 0, none⟩ (.pointer a)).frozen? ⟨t, 1, none⟩ = false := blk_frozen (blk_set hbt _)
    have hFt : ∀ i, ((F i ∨ w1.heap.size ≤ i) ∧ i < w3.heap.size) → i ≠ t := fun i hi e => by
      have := HLT.out
      have := HC1.out.size
      rcases hi.1 with q | q
      · exact (HT.out.2.2.2 i q).2 e
      · omega
    have k1 : Ch (fun i => i = t) w3 ((w3.setCell ⟨t, 0, none⟩ (.pointer a)).setCell ⟨t, 1, none⟩ (.int .i64 ((n : Int) - 1))) := ((Ch.refl (fun i => i = t) w3).setCell (p := ⟨t, 0, none⟩) (Or.inl rfl) _).setCell (p := ⟨t, 1, none⟩) (Or.inl rfl) _
    have hfin : TDelP w t k L (.returned (.bool true)) ((w3.setCell ⟨t, 0, none⟩ (.pointer a)).setCell ⟨t, 1, none⟩ (.int .i64 ((n : Int) - 1))) := by
      refine ⟨h3, by rw [← HO.out]; rfl, ⟨_, p, m3, ?_, hT3.ch k1 fun i hi e => hFt i hi e, z3, rise_del HLR.out.1 k, fun i hi => ⟨Nat.lt_of_lt_of_le hi.2 k1.size, hFt i hi⟩, by have := HDL.out; omega⟩, ((HC1.out.trans HC2.out).mono fun _ _ f => f.elim).trans k1⟩
      rw [blk_set (blk_set hbt _), hpa]
      have : (n : Int) - 1 = ((delL L k).length : Int) := by have := HDL.out; omega
      rw [this]
      rfl
    have HFIN := Lib.hid hfin
    rw [hpa]
    clear hbt hpa hFt k1 hfin hT3 z3 HSH
    go_wp2_with fail
    go_ret
    exact HFIN.out
#print axioms tdel_any
end Go.Proofs.Ytkpgaejmhddkdaa
