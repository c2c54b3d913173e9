/-
  The chapter's example of layer 7 (awake), walked.
-/
import Derived.Test.YtennkpjmdhidaaaBlkK
import Derived.Test.YtennkpjmdhidaaaBlkN
namespace Go.Proofs.Ytennkpjmdhidaaa
open Go.RowKit
set_option linter.unusedVariables false

def exB (V : Value) : Bk := ⟨3, 1, 2, 3, 4, V, 1, fun _ => 9⟩
def wantB : Bk := ⟨3, 1, 2, 3, 4, .slice none 0 0, 0, fun _ => 0⟩
def exL : List Nat := [81, 77, 3, 0, 1, 0, 0, 0, 2, 0, 0, 0, 3, 0, 0, 0, 4, 0, 0, 0, 1, 0, 0, 0, 9]
theorem ex_may (V : Value) : mayB (exB V) = true := rfl
theorem ex_N (V : Value) : sealN (exB V) = 256 := rfl
theorem ex_E (V : Value) : sealE (exB V) = 0 := rfl
theorem ex_sec0 : ∀ c, c < 25 → secZ (exB undef) c = litZ exL c := by decide
theorem ex_sec (V : Value) (c : Nat) (h : c < 25) : sectZ (exB V) c = litZ exL c := by
  rw [sectZ_front (by omega)]
  exact ex_sec0 c h
theorem ex_same (V : Value) : eqB 25 25 (sectZ (exB V)) (litZ exL) = true := decide_eq_true ⟨rfl, fun c hc => ex_sec V c hc⟩
theorem ex_class (V : Value) : classOf 256 (sectZ (exB V)) wantB = 1 := class_self (ex_may V) rfl rfl rfl rfl rfl
theorem none_class (z : Nat → Nat) (want : Bk) : classOf 0 z want = 4 := classOf_no (opensB_long z (by omega))
theorem n64_lit {x : Int} (h : -9223372036854775808 ≤ x ∧ x ≤ 9223372036854775807) : N64 x := h
theorem exB_is {w : World} {V : Value} (h : RowV w V 1 (fun _ => 9)) : BkIs w (exB V) := ⟨n64_lit (x := 3) (by omega), n64_lit (x := 1) (by omega), n64_lit (x := 2) (by omega), n64_lit (x := 3) (by omega), n64_lit (x := 4) (by omega), h⟩
theorem ex_row (w : World) : RowV (w.alloc (.cells (litV exL) /-t-/5)) (.slice (some ⟨w.heap.size, 0, none⟩) 25 25) 25 (litZ exL) := lit_row w exL 25 (0, 0) rfl (by decide) (by omega)
set_option maxHeartbeats 1600000 in
set_option maxRecDepth 100000 in
theorem awake_any (w : World) : Calls Try.prog 8 #[] w (Told w) := by
  have HB1 := Lib.hid (exB_is (one_row w (x := 9) (y := 9) rfl (by omega)))
  go_enter Try.func8, Try.ntmps8
  go_wp2_with fail
  refine (bseal_any (exB (.slice (some ⟨w.heap.size, 0, none⟩) 1 1)) _ 1 _ rfl HB1.out).mono ?_
  rintro e w2 ⟨A, C, rfl, ho2, hc2⟩
  rw [ex_N] at ho2
  rw [ex_N, ex_E]
  obtain ⟨g, C', e2, hC⟩ := owns_some ho2 (by omega)
  injection e2 with e2 _ e3
  subst e2
  subst e3
  obtain ⟨V, hV⟩ : ∃ V : Value, V = .slice (some ⟨w.heap.size, 0, none⟩) 1 1 := ⟨_, rfl⟩
  rw [← hV] at HB1 ho2
  have HR2 := Lib.hid (ownsRow_rowV ho2 (by omega) (sectZ_b HB1.out.row.bytes 256))
  have HC2 := Lib.hid (((Ch.refl (fun _ => False) w).alloc _ _).trans hc2)
  have i1 : (25 : Int) ≤ (C : Int) := by omega
  have HF := Lib.hid (row_front HR2.out (show 25 ≤ 256 by omega))
  clear hV ho2 hc2 hC
  go_wp2_with fail
  refine (same_any _ _ 25 25 _ _ _ _ _ (HF.out.gr ((Ch.refl _ w2).alloc _ _)) (ex_row w2)).mono ?_
  rintro e w3 ⟨rfl, d, hw3⟩
  rw [ex_same]
  have hc3 : Ch (fun _ => False) w2 w3 := by rw [hw3]; exact ((Ch.refl _ w2).alloc _ _).drewN d
  have HC3 := Lib.hid (HC2.out.trans hc3)
  have HR3 := Lib.hid (HR2.out.gr hc3)
  clear hw3 hc3
  go_wp2_with fail
  refine (class_any _ 256 _ _ wantB _ HR3.out).mono ?_
  rintro e w4 ⟨rfl, hc4⟩
  rw [ex_class]
  have HC4 := Lib.hid (HC3.out.trans hc4)
  clear hc4
  go_wp2_with fail
  refine (class_any _ 0 _ _ bk0 _ (nil_row w4 (fun _ => 0))).mono ?_
  rintro e w5 ⟨rfl, hc5⟩
  rw [none_class]
  go_wp2
  go_ret
  exact ⟨rfl, HC4.out.trans hc5⟩
#print axioms awake_any
end Go.Proofs.Ytennkpjmdhidaaa
