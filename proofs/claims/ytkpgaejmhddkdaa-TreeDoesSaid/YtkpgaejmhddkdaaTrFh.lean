/-
  The chapter's example (awake), walked.
-/
import Derived.Test.YtkpgaejmhddkdaaTrFg
namespace Go.Proofs.Ytkpgaejmhddkdaa
open Go.RowKit
set_option linter.unusedVariables false
set_option maxRecDepth 100000
set_option linter.unusedSimpArgs false

def lst (j : Nat) : List Kv := (List.range j).map fun i : Nat => ((⟨#[(97 + i).toUInt8]⟩ : ByteArray), (i : Int))
theorem lst_put (j : Nat) (h : j < 8) : putL13 (lst j) ⟨#[(97 + j).toUInt8]⟩ (j : Int) = lst (j + 1) := by
  have : j = 0 ∨ j = 1 ∨ j = 2 ∨ j = 3 ∨ j = 4 ∨ j = 5 ∨ j = 6 ∨ j = 7 := by omega
  rcases this with rfl | rfl | rfl | rfl | rfl | rfl | rfl | rfl <;> decide +kernel
theorem key_at (j : Nat) (h : j < 8) : (⟨#[97, 98, 99, 100, 101, 102, 103, 104]⟩ : ByteArray).extract j (j + 1) = ⟨#[(97 + j).toUInt8]⟩ := by
  have : j = 0 ∨ j = 1 ∨ j = 2 ∨ j = 3 ∨ j = 4 ∨ j = 5 ∨ j = 6 ∨ j = 7 := by omega
  rcases this with rfl | rfl | rfl | rfl | rfl | rfl | rfl | rfl <;> decide +kernel
theorem lst_c : getL (lst 8) ⟨#[99]⟩ = some 2 := by decide +kernel
theorem lst_g : fromL (lst 8) ⟨#[103]⟩ = [(⟨#[103]⟩, 6), (⟨#[104]⟩, 7)] := by decide +kernel
/-- A tree's depth, by how many it has. -/
theorem TreeIs.deep {w : World} {t h : Nat} {L : List Kv} (q : TreeIs w t h L) : (1 ≤ h → 2 * 4 ^ (h - 1) ≤ L.length + 1) ∧ (L.length = 0 → h = 0) ∧ (h = 0 → L.length = 0) ∧ (h = 1 → L.length ≤ 7) := by
  obtain ⟨F, root, m, hb, hT, hm, hr, _⟩ := q
  have h1 : 1 ≤ h → 2 * 4 ^ (h - 1) ≤ L.length + 1 := fun h0 => by
    have a := hT.low h0
    have b := (hm h0).1
    exact Nat.le_trans (Nat.mul_le_mul_right _ (by omega)) a
  refine ⟨h1, fun e => ?_, fun e => ?_, fun e => ?_⟩
  · by_cases hz : h = 0
    · exact hz
    · have a := h1 (by omega)
      have b : 0 < 4 ^ (h - 1) := Nat.pow_pos (by omega)
      omega
  · subst e
    rw [hT.2.2]
    rfl
  · subst e
    obtain ⟨b, ps, cs, e1, h2, h3, h4⟩ := hT
    rcases h4 with ⟨_, _, rfl⟩ | ⟨h0, _⟩
    · rw [← h3]
      exact (hm (by omega)).2
    · exact absurd h0 (Nat.lt_irrefl _)
theorem TreeIs.new (w : World) (t : Nat) (hb : w.heap[t]? = some (.cells #[.pointer none, .int .i64 0] 28 (0, 0))) : TreeIs w t 0 [] :=
  ⟨fun _ => False, none, 0, hb, ⟨rfl, rfl, rfl⟩, fun h => absurd h (Nat.lt_irrefl 0), List.Pairwise.nil, fun i h => h.elim, Nat.zero_le _⟩
set_option maxHeartbeats 3200000 in
theorem awake_any (w : World) : Calls Try.prog 8 #[] w (Tid (.bool true) w) := by
  obtain ⟨w1, hw1⟩ : ∃ w1, w1 = w.alloc (.cells #[.pointer none, .int .i64 0] 28) := ⟨_, rfl⟩
  obtain ⟨t, ht⟩ : ∃ t, t = w.heap.size := ⟨_, rfl⟩
  have hc : Ch (fun _ => False) w w1 := by rw [hw1]; exact (Ch.refl _ w).alloc _ _
  have hb : w1.heap[t]? = some (.cells #[.pointer none, .int .i64 0] 28 (0, 0)) := by rw [hw1, ht]; exact heap_alloc_new _ _
  have HT0 := Lib.hid (TreeIs.new w1 t hb)
  have HC0 := Lib.hid hc
  have HLE := Lib.hid (show w.heap.size ≤ t by rw [ht]; exact Nat.le_refl _)
  clear hc hb
  go_enter Try.func8, Try.ntmps8
  go_upto_region 2 with fail
  rw [← ht, ← hw1]
  clear ht hw1
  go_wp2_with fail
  go_loopw [2] (fun i wr => ∃ j : Nat, j ≤ 8 ∧ i = .int .i64 (j : Int) ∧ Hid (∃ h, TreeIs wr t h (lst j)) ∧ Hid (Ch (fun i => i = t) w1 wr)) (fun i _ => 8 - (intOf i).toNat)
  case atStart => exact ⟨0, Nat.zero_le _, rfl, Lib.hid ⟨0, HT0.out⟩, Lib.hid (Ch.refl _ _)⟩
  case round =>
    obtain ⟨j, hj, rfl, HT, HC⟩ := hrel
    have j0 : (0 : Int) ≤ (j : Int) := Int.natCast_nonneg _
    by_cases hlt : j < 8
    · have j1 : (j : Int) < 8 := by omega
      obtain ⟨h, hT⟩ := HT.out
      have HTT := Lib.hid hT
      clear hT
      have hp := tput_any HTT.out ⟨#[(97 + j).toUInt8]⟩ (j : Int) (by unfold lst; rw [List.length_map, List.length_range]; omega)
      rw [← key_at j hlt] at hp
      have HP := Lib.hid hp
      have HL := Lib.hid (And.intro (key_at j hlt) (lst_put j hlt))
      clear hp
      go_wp2_with (first
        | (refine HP.out.mono ?_; rintro e w2 ⟨h2, rfl, q1, q2⟩; have HQ := Lib.hid (And.intro q1 q2); clear q1 q2)
        | fail)
      go_roundw
      case rel => exact ⟨j + 1, by omega, by go_num, Lib.hid ⟨h2, by have := HQ.out.1; rw [HL.out.1, HL.out.2] at this; exact this⟩, Lib.hid (HC.out.trans HQ.out.2)⟩
      case measure => simp [intOf]; omega
    · obtain rfl : j = 8 := by omega
      obtain ⟨h, hT⟩ := HT.out
      have hd := hT.deep
      have hl8 : (lst 8).length = 8 := rfl
      rw [hl8] at hd
      have h2 : h = 2 := by
        obtain ⟨d1, d2, d3, d4⟩ := hd
        have a0 : h ≠ 0 := fun e => by have := d3 e; omega
        have a1 : h ≠ 1 := fun e => by have := d4 e; omega
        have a3 : h ≤ 2 := by
          by_cases hz : h ≤ 2
          · exact hz
          · have := d1 (by omega)
            have h6 : 4 ^ 2 ≤ 4 ^ (h - 1) := Nat.pow_le_pow_right (by omega) (by omega)
            omega
        omega
      subst h2
      have hg := tget_any hT ⟨#[99]⟩
      rw [lst_c] at hg
      have HG : Hid (Calls Try.prog 14 #[.pointer (some ⟨t, 0, none⟩), .string ⟨#[99]⟩] wr (Ans (.tuple #[.int .i64 2, .bool true]) wr)) := Lib.hid hg
      have HTD := Lib.hid hT
      clear hg hd hl8 hT hj
      go_wp2_with (first
        | (refine HG.out.mono ?_; rintro e w2 ⟨rfl, hc2⟩; have HC2 := Lib.hid hc2; have htl := told_any (some t) 2 (lst 8) ⟨#[103]⟩ (-1) (by decide) w2 (HTD.out.gr hc2); rw [lst_g] at htl; have HTL := Lib.hid htl; clear hc2 htl)
        | (refine HTL.out.mono ?_; rintro e w3 ⟨v, rfl, q1, q2⟩; have HQ := Lib.hid (And.intro q1 q2); clear q1 q2)
        | fail)
      obtain ⟨A, C, hv⟩ := HQ.out.1.len
      subst hv
      have hfv := HQ.out.1.read kdKv_ok (by decide)
      obtain ⟨b, o, hA, hc⟩ := hfv.at' (by decide)
      subst hA
      have e1 : w3.cell? ⟨b, o + 2, none⟩ = some (.string ⟨#[104]⟩) := hc 1 (⟨#[104]⟩, 7) rfl 0 _ rfl
      have hT3 := (HTD.out.gr HC2.out).gr HQ.out.2
      have HLN : Hid (Calls Try.prog 15 #[.pointer (some ⟨t, 0, none⟩)] w3 fun e w' => e = .returned (.int .i64 8) ∧ w' = w3) := Lib.hid (tlen_any hT3)
      have HDP : Hid (Calls Try.prog 19 #[.pointer (some ⟨t, 0, none⟩)] w3 fun e w' => e = .returned (.int .i64 2) ∧ w' = w3) := Lib.hid (tdeep_any hT3 (by decide))
      have HFIN : Hid (Tid (.bool true) w (.returned (.bool true)) w3) := Lib.hid ⟨rfl, (HC0.out.new (HC.out.mono fun i _ e => by rw [e]; exact HLE.out)).trans (HC2.out.trans HQ.out.2)⟩
      clear hfv hc hT3
      show Calls Try.prog 15 _ _ _
      refine HLN.out.mono ?_
      rintro e w4 ⟨rfl, rfl⟩
      go_wp2_with (first
        | (refine HDP.out.mono ?_; rintro e w5 ⟨rfl, rfl⟩)
        | fail)
      go_ret
      exact HFIN.out
#print axioms awake_any
end Go.Proofs.Ytkpgaejmhddkdaa
