/-
  TreeDeep, walked.
-/
import Derived.Test.YtkpgaejmhddkdaaTrFi
namespace Go.Proofs.Ytkpgaejmhddkdaa
open Go.RowKit
set_option linter.unusedVariables false
set_option maxRecDepth 100000
set_option linter.unusedSimpArgs false

theorem fewB_len {l : List OpV} {most : Nat} (h : fewB l most = true) : l.length ≤ most := by
  unfold fewB at h
  rw [Bool.and_eq_true] at h
  exact of_decide_eq_true h.1
theorem TreeIs.rise {w : World} {t h : Nat} {L : List Kv} (q : TreeIs w t h L) : Rise L := by
  obtain ⟨F, root, m, hb, hT, hm, hr, _⟩ := q
  exact hr
theorem does_len {L : List Kv} (h : Rise L) (x : OpV) : (doesL x L).length ≤ L.length + 1 := by
  unfold doesL
  split
  · have := delL_len h x.2.1
    omega
  · rw [putL_len h]
    split <;> omega
theorem FlV.cells {α : Type} {K : Kf α} {w : World} {b o C : Nat} {L : List α} (h : FlV K w (some ⟨b, o, none⟩) C L) {i : Nat} {x : α} (hx : L[i]? = some x) (j : Nat) (u : Value) (hu : (K.f x)[j]? = some u) : w.cell? ⟨b, o + i * K.k + j, none⟩ = some u := by
  obtain ⟨b', o', hA, hc⟩ := h.at' (by have := (List.getElem?_eq_some_iff.1 hx).1; omega)
  injection hA with hA
  injection hA with e1 e2
  subst e1 e2
  exact hc i x hx j u hu
theorem FlV.some' {α : Type} {K : Kf α} {w : World} {A : Option Addr} {C : Nat} {L : List α} (h : FlV K w A C L) (h0 : 0 < L.length) : ∃ b o, A = some ⟨b, o, none⟩ := by
  obtain ⟨b, o, hA, _⟩ := h.at' h0
  exact ⟨b, o, hA⟩
theorem FlV.low' {α : Type} {K : Kf α} (hK : K.Ok) {w : World} {b o C : Nat} {L : List α} (h : FlV K w (some ⟨b, o, none⟩) C L) (h0 : 0 < L.length) : b < w.heap.size := by
  obtain ⟨b', o', hA, hc⟩ := h.at' h0
  injection hA with hA
  injection hA with e1 e2
  subst e1 e2
  have hk : 0 < (K.f L[0]).length := by rw [hK.len]; exact hK.k0
  exact World.block_lt_of_cell? _ _ (hc 0 L[0] (List.getElem?_eq_getElem h0) 0 _ (List.getElem?_eq_getElem hk))
/-- A tree behind so many calls. -/
def TrSt (t j : Nat) (w1 wr : World) : Prop := ∃ h L, TreeIs wr t h L ∧ L.length ≤ j ∧ Ch (fun i => i = t) w1 wr
set_option maxHeartbeats 6400000 in
theorem treeDeep_of (A : Option Addr) (C : Nat) (ls : List OpV) (w : World) (h : FlW kdOp w A C ls) : Calls Try.prog 4 #[.slice A ls.length C] w (Told w) := by
  have HW := Lib.hid h
  obtain ⟨n, hn⟩ : ∃ n, n = ls.length := ⟨_, rfl⟩
  have hle := h.le
  have HUP := Lib.hid (awake_any w)
  rw [← hn] at hle ⊢
  have n0 : (0 : Int) ≤ (n : Int) := Int.natCast_nonneg _
  have n1 : (n : Int) ≤ 9223372036854775807 := by omega
  have HN := Lib.hid hn
  obtain ⟨f, hf⟩ : ∃ f, f = fewB ls 400 := ⟨_, rfl⟩
  have HF := Lib.hid hf
  clear h hn hle hf
  go_enter Try.func4, Try.ntmps4
  go_wp2_with fail
  refine HUP.out.mono ?_
  rintro e w1 ⟨rfl, hc1⟩
  have hfw := few_any A C ls 400 (by omega) w1 (HW.out.gr hc1)
  rw [← HN.out, ← HF.out] at hfw
  have HFW := Lib.hid hfw
  have HC1 := Lib.hid hc1
  clear hc1 hfw HUP
  go_wp2_with fail
  refine HFW.out.mono ?_
  rintro e w2 ⟨rfl, hc2⟩
  have HC2 := Lib.hid (HC1.out.trans hc2)
  clear hc2 HFW HC1
  cases f
  · go_wp2_with fail
    go_ret
    exact ⟨rfl, HC2.out⟩
  · have hn4 : n ≤ 400 := by rw [HN.out]; exact fewB_len HF.out.symm
    have n4 : (n : Int) ≤ 400 := by omega
    have HV := Lib.hid (HW.out.fl (by rw [← HN.out]; omega))
    obtain ⟨w3, hw3⟩ : ∃ w3, w3 = w2.alloc (.cells #[.pointer none, .int .i64 0] 28) := ⟨_, rfl⟩
    obtain ⟨t, ht⟩ : ∃ t, t = w2.heap.size := ⟨_, rfl⟩
    have hc : Ch (fun _ => False) w2 w3 := by rw [hw3]; exact (Ch.refl _ w2).alloc _ _
    have hb : w3.heap[t]? = some (.cells #[.pointer none, .int .i64 0] 28 (0, 0)) := by rw [hw3, ht]; exact heap_alloc_new _ _
    have HT0 := Lib.hid (TreeIs.new w3 t hb)
    have HC3 := Lib.hid (HC2.out.trans hc)
    have HLE := Lib.hid (show w.heap.size ≤ t by rw [ht]; exact HC2.out.size)
    have HV3 := Lib.hid (HV.out.gr (HC2.out.trans hc))
    clear hc hb hn4
    go_upto_region 6 with fail
    rw [← ht, ← hw3]
    clear ht hw3
    go_wp2_with fail
    go_loopw [6] (fun i wr => ∃ j : Nat, j ≤ n ∧ i = .int .i64 (j : Int) ∧ Hid (TrSt t j w3 wr)) (fun i _ => n - (intOf i).toNat)
    case atStart => exact ⟨0, Nat.zero_le _, rfl, Lib.hid ⟨0, [], HT0.out, Nat.le_refl 0, Ch.refl _ _⟩⟩
    case round =>
      obtain ⟨j, hj, rfl, HS⟩ := hrel
      have j0 : (0 : Int) ≤ (j : Int) := Int.natCast_nonneg _
      have j400 : j ≤ 400 := by omega
      by_cases hlt : j < n
      · have j1 : (j : Int) < (n : Int) := by omega
        obtain ⟨h, L, hT, hLj, hC⟩ := HS.out
        obtain ⟨b, o, rfl⟩ := HV.out.some' (by rw [← HN.out]; omega)
        have hbt : b ≠ t := fun e => by
          have h1 := HV.out.low' kdOp_ok (by rw [← HN.out]; omega)
          have h2 := HLE.out
          omega
        have hv := HV3.out.ch hC fun b' o' e x => hbt (by injection e with e; injection e with e _ _; rw [e]; exact x)
        have hx : ls[j]? = some (ls[j]'(by rw [← HN.out]; exact hlt)) := List.getElem?_eq_getElem _
        obtain ⟨⟨d, k, v⟩, hxe⟩ : ∃ x, ls[j]? = some x := ⟨_, hx⟩
        have c0 : wr.cell? ⟨b, o + j * 3, none⟩ = some (.bool d) := hv.cells hxe 0 _ rfl
        have c1 : wr.cell? ⟨b, o + j * 3 + 1, none⟩ = some (.string k) := hv.cells hxe 1 _ rfl
        have c2 : wr.cell? ⟨b, o + j * 3 + 2, none⟩ = some (.int .i64 v) := hv.cells hxe 2 _ rfl
        have HD := Lib.hid (does_any hT (d, k, v) (by omega))
        have HR := Lib.hid (And.intro hT.rise (And.intro hLj hC))
        clear hv hx hxe hT hLj hC hbt HS
        go_wp2_with fail
        refine HD.out.mono ?_
        rintro e w4 ⟨h2, rfl, hT2, hc4⟩
        obtain ⟨L2, hL2⟩ : ∃ L2, L2 = doesL (d, k, v) L := ⟨_, rfl⟩
        rw [← hL2] at hT2
        have hl2 : L2.length ≤ j + 1 := by rw [hL2]; have := does_len HR.out.1 (d, k, v); have := HR.out.2.1; omega
        have hdp := hT2.deep
        have hh2 : h2 ≤ 1000 := by
          by_cases hz : h2 ≤ 1000
          · exact hz
          · have h5 := hdp.1 (by omega)
            have h6 : 4 ^ 9 ≤ 4 ^ (h2 - 1) := Nat.pow_le_pow_right (by omega) (by omega)
            omega
        have HS2 : Hid (TrSt t (j + 1) w3 w4) := Lib.hid ⟨h2, L2, hT2, hl2, HR.out.2.2.trans hc4⟩
        have hlen := tlen_any hT2
        have hdeep := tdeep_any hT2 hh2
        obtain ⟨m, hm⟩ : ∃ m, m = L2.length := ⟨_, rfl⟩
        rw [← hm] at hlen hdp hl2
        have hrd := rdeep_any m (by omega) w4
        have HTM := Lib.hid (And.intro hm hT2)
        have HLN := Lib.hid hlen
        have HDP := Lib.hid hdeep
        have HRD := Lib.hid hrd
        have HDD := Lib.hid hdp
        have m0 : (0 : Int) ≤ (m : Int) := Int.natCast_nonneg _
        have m1 : (m : Int) ≤ 401 := by omega
        have q0 : (0 : Int) ≤ (h2 : Int) := Int.natCast_nonneg _
        have q1 : (h2 : Int) ≤ 1000 := by omega
        clear hlen hdeep hrd hdp hm hL2 hT2 hc4 HD HR c0 c1 c2 hh2 hl2
        go_wp2_with fail
        refine HDP.out.mono ?_
        rintro e w5 ⟨rfl, rfl⟩
        go_wp2_with fail
        refine HLN.out.mono ?_
        rintro e w6 ⟨rfl, rfl⟩
        go_wp2_with fail
        refine HRD.out.mono ?_
        rintro e w7 ⟨d, rfl, hd1, hd2, hc7⟩
        have hle : ¬ (d : Int) < (h2 : Int) := by
          have := hd1 h2 HDD.out.1 HDD.out.2.1
          omega
        have HS3 : Hid (TrSt t (j + 1) w3 w7) := Lib.hid (by
          obtain ⟨h, L, a1, a2, a3⟩ := HS2.out
          exact ⟨h, L, a1.gr hc7, a2, a3.trans (hc7.mono fun _ _ f => f.elim)⟩)
        have hz : (h2 = 0) ↔ (m = 0) := ⟨HDD.out.2.2.1, HDD.out.2.1⟩
        have HLN7 : Hid (Calls Try.prog 15 #[.pointer (some ⟨t, 0, none⟩)] w7 fun e w' => e = .returned (.int .i64 (m : Int)) ∧ w' = w7) := Lib.hid (by
          have hl := tlen_any (HTM.out.2.gr hc7)
          rw [← HTM.out.1] at hl
          exact hl)
        have d0 : (0 : Int) ≤ (d : Int) := Int.natCast_nonneg _
        have d1 : (d : Int) ≤ 64 := by omega
        clear hd1 hd2 hc7
        rcases Nat.eq_zero_or_pos h2 with z | z
        · have z1 : (h2 : Int) = 0 := by omega
          have z2 : (m : Int) = 0 := by have := hz.1 z; omega
          clear z hz
          go_wp2_with fail
          refine HLN7.out.mono ?_
          rintro e w8 ⟨rfl, rfl⟩
          go_wp2_with fail
          go_roundw
          case rel => exact ⟨j + 1, by omega, by go_num, HS3⟩
          case measure => simp [intOf]; omega
        · have z1 : ((h2 : Int) == 0) = false := beq_eq_false_iff_ne.2 (by omega)
          have z2 : ((m : Int) == 0) = false := beq_eq_false_iff_ne.2 fun e => by have := hz.2 (by omega); omega
          clear z hz
          go_wp2_with fail
          refine HLN7.out.mono ?_
          rintro e w8 ⟨rfl, rfl⟩
          go_wp2_with fail
          go_roundw
          case rel => exact ⟨j + 1, by omega, by go_num, HS3⟩
          case measure => simp [intOf]; omega
      · have j1 : ¬ (j : Int) < (n : Int) := by omega
        have HFIN : Hid (Told w (.returned (.bool true)) wr) := Lib.hid ⟨rfl, by
          obtain ⟨h, L, _, _, hC⟩ := HS.out
          exact HC3.out.new (hC.mono fun i _ e => by rw [e]; exact HLE.out)⟩
        go_wp2_with fail
        go_ret
        exact HFIN.out
#print axioms treeDeep_of
end Go.Proofs.Ytkpgaejmhddkdaa
