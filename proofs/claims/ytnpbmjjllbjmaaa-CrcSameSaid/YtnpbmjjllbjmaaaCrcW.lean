/-
  The document's Whole, and the chapter's examples (awake), walked.
-/
import Derived.Test.YtnpbmjjllbjmaaaCrcS
import Derived.Lib.SlBytesConst
namespace Go.Proofs.Ytnpbmjjllbjmaaa
open Go.RowKit
set_option linter.unusedVariables false

theorem rwhole_eqB {n : Nat} {z : Nat → Nat} : eqB (n + 4) (n + 4) (Crc.sealZ n z) z = Crc.wholeB (n + 4) z := by
  unfold eqB Crc.wholeB
  rw [decide_eq_decide]
  have e : n + 4 - 4 = n := Nat.add_sub_cancel n 4
  constructor
  · rintro ⟨_, h⟩
    refine ⟨by omega, fun j hj => ?_⟩
    rw [e, ← h (n + j) (by omega)]
    unfold Crc.sealZ; rw [if_neg (by omega), show n + j - n = j by omega]
  · rintro ⟨_, h⟩
    refine ⟨rfl, fun c hc => ?_⟩
    unfold Crc.sealZ
    by_cases q : c < n
    · rw [if_pos q]
    · rw [if_neg q]
      have := h (c - n) (by omega)
      rw [e, show n + (c - n) = c by omega] at this
      exact this.symm
set_option maxHeartbeats 800000 in
theorem rwhole_any (A : Option Addr) (n C : Nat) (z : Nat → Nat) (w : World) (hn : n ≤ 65536) (h : RowV w (.slice A n C) n z) : Calls Try.prog 15 #[.slice A n C] w (Ans (.bool (Crc.wholeB n z)) w) := by
  obtain ⟨_, _, e, hl, h3⟩ := id h
  injection e with e _ eC
  subst e
  subst eC
  by_cases h4 : 4 ≤ n
  · obtain ⟨b, o, rfl, _⟩ := h3 (by omega)
    obtain ⟨N, rfl⟩ : ∃ N, n = N + 4 := ⟨n - 4, by omega⟩
    have HF := Lib.hid (row_front h (show N ≤ N + 4 by omega))
    have HV := Lib.hid h
    have HW := Lib.hid (rwhole_eqB (n := N) (z := z))
    have HB := Lib.hid (Crc.sealZ_lt (row_front h (show N ≤ N + 4 by omega)).bytes)
    have hl1 := hl.1
    have hl2 := hl.2
    have e1 : (((N + 4 : Nat) : Int) - 4) = (N : Int) := by omega
    have t1 : decide ((N : Int) + 4 < 4) = false := by simp; omega
    clear h h3 hl h4
    go_enter Try.func15, Try.ntmps15
    go_wp2_with fail
    refine (rseal_any _ N _ z _ (by omega) HF.out).mono ?_
    rintro e w1 ⟨g, Cg, rfl, ho, hch⟩
    have HR := Lib.hid (ownsRow_rowV ho (by omega) (fun c _ => HB.out c))
    have HC := Lib.hid hch
    clear ho hch
    go_wp2_with fail
    refine (same_any _ _ _ _ _ _ _ _ _ HR.out (HV.out.gr HC.out)).mono ?_
    rintro e w2 ⟨rfl, d, rfl⟩
    rw [HW.out]
    go_wp2
    go_ret
    exact ⟨rfl, HC.out.drewN _⟩
  · have HW := Lib.hid (show Crc.wholeB n z = false from decide_eq_false fun q => h4 q.1)
    have t1 : decide ((n : Int) < 4) = true := by simp; omega
    have hl1 := hl.1
    clear h h4 h3 hl
    go_enter Try.func15, Try.ntmps15
    go_wp2
    go_ret
    exact ⟨ret_bool HW.out.symm, Ch.refl _ _⟩
#print axioms rwhole_any

/-! ### awake -/
def litZ (l : List Nat) (i : Nat) : Nat := l.getD i 0
def litV (l : List Nat) : Array Value := (l.map fun (x : Nat) => Value.int .u8 (x : Int)).toArray
theorem lit_row (w : World) (l : List Nat) (n : Nat) (fr : Nat × Nat) (hn : l.length = n) (h : ∀ x ∈ l, x < 256) (h2 : n ≤ 65536) : RowV (w.alloc (.cells (litV l) /-t-/5 fr)) (.slice (some ⟨w.heap.size, 0, none⟩) n n) n (litZ l) := by
  refine ⟨_, _, rfl, by omega, fun _ => ⟨_, _, rfl, fun c hc => ⟨?_, ?_⟩⟩⟩
  · rw [cell_of_row _ _ _ _ _ fr (heap_alloc_new w _), Nat.zero_add]
    unfold litV litZ
    have hc' : c < l.length := by omega
    simp [List.getD, hc']
  · unfold litZ
    rw [List.getD, List.getElem?_eq_getElem (by omega)]
    exact h _ (List.getElem_mem _)
def ex9 : Nat → Nat := litZ [49, 50, 51, 52, 53, 54, 55, 56, 57]
def exa : Nat → Nat := litZ [97]
def exe : Nat → Nat := litZ [97, 98, 99, 100, 101]
theorem ex9_sum : Crc.sumZ 9 ex9 = 3808858755 := by decide +kernel
theorem ex0_sum : Crc.sumZ 0 ex9 = 0 := by decide +kernel
theorem exa_whole : Crc.wholeB 5 (Crc.sealZ 1 exa) = true := decide_eq_true Crc.sealed_whole
theorem exe_whole : Crc.wholeB 5 exe = false := by decide +kernel
theorem exa_b : Bytes 5 (Crc.sealZ 1 exa) := fun c _ => Crc.sealZ_lt (fun i hi => by obtain rfl : i = 0 := by omega
                                                                                     decide) c
set_option maxHeartbeats 1600000 in
set_option maxRecDepth 100000 in
theorem awake_any (w : World) : Calls Try.prog 8 #[] w (Told w) := by
  have kc := fun (w : World) (C : Array Value) (n c : Nat) => Lib.run_convert_bytes_const (P := Try.prog) w /-t-/22 /-t-/5 C n c Try.underlying22 Try.underlying5
  go_enter Try.func8, Try.ntmps8
  go_wp2_with fail
  refine (sum_any _ _ _ ex9 _ (lit_row w [49, 50, 51, 52, 53, 54, 55, 56, 57] 9 _ rfl (by decide) (by omega))).mono ?_
  rintro e w1 ⟨rfl, hch1⟩
  rw [ex9_sum]
  have HC1 := Lib.hid (((Ch.refl (fun _ => False) w).allocO _).trans hch1)
  clear hch1
  go_wp2_with fail
  refine (sum_any _ _ _ ex9 _ (nil_row w1 ex9)).mono ?_
  rintro e w2 ⟨rfl, hch2⟩
  rw [ex0_sum]
  have HC2 := Lib.hid (HC1.out.trans hch2)
  clear hch2 HC1
  go_wp2_with fail
  refine (seal_any _ _ _ exa _ (by omega) (lit_row w2 [97] 1 _ rfl (by decide) (by omega))).mono ?_
  rintro e w3 ⟨g, Cg, rfl, ho3, hch3⟩
  have HR3 := Lib.hid (ownsRow_rowV ho3 (by omega) exa_b)
  have HC3 := Lib.hid ((HC2.out.allocO _).trans hch3)
  clear ho3 hch3 HC2
  go_wp2_with fail
  refine (whole_any _ _ _ _ _ HR3.out).mono ?_
  rintro e w4 ⟨rfl, hch4⟩
  rw [exa_whole]
  have HC4 := Lib.hid (HC3.out.trans hch4)
  clear hch4 HC3 HR3
  go_wp2_with fail
  refine (whole_any _ _ _ exe _ (lit_row w4 [97, 98, 99, 100, 101] 5 _ rfl (by decide) (by omega))).mono ?_
  rintro e w5 ⟨rfl, hch5⟩
  rw [exe_whole]
  go_wp2
  go_ret
  exact ⟨rfl, (HC4.out.allocO _).trans hch5⟩
#print axioms awake_any
end Go.Proofs.Ytnpbmjjllbjmaaa
