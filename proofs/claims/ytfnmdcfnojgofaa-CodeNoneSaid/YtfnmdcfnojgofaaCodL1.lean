/-
  CodeNone, walked.
-/
import Derived.Test.YtfnmdcfnojgofaaCodW
namespace Go.Proofs.Ytfnmdcfnojgofaa
open Go.RowKit Go.Shelf Cod
set_option linter.unusedVariables false

set_option maxHeartbeats 1600000 in
set_option maxRecDepth 100000 in
theorem codeNone_of (n : Int) (vb : Value) (w : World) {m : Nat} {z : Nat → Nat} (hn : -9223372036854775808 ≤ n ∧ n ≤ 9223372036854775807) (hb : RowV w vb m z) : Calls Try.prog 7 #[.int .i64 n, vb] w (Told w) := by
  obtain ⟨A, C, rfl, hl, _⟩ := id hb
  have hl1 := hl.1
  clear hb hl hn
  by_cases h : m ≤ 600
  case neg =>
    have t1 : decide ((600 : Int) < (m : Int)) = true := by simp; omega
    go_enter Try.func7, Try.ntmps7
    go_wp2_with fail
    refine (awake_any _).mono ?_
    rintro e w1 ⟨rfl, hch1⟩
    go_wp2
    go_ret
    exact ⟨rfl, hch1⟩
  have t1 : decide ((600 : Int) < (m : Int)) = false := by simp; omega
  clear h
  go_enter Try.func7, Try.ntmps7
  go_wp2_with fail
  refine (awake_any _).mono ?_
  rintro e w1 ⟨rfl, hch1⟩
  have HC1 := Lib.hid hch1
  clear hch1
  go_wp2_with fail
  refine (onum_nil n _).mono ?_
  rintro e w' ⟨rfl, rfl⟩
  go_wp2_with fail
  refine (oint_nil n _).mono ?_
  rintro e w' ⟨rfl, rfl⟩
  go_wp2_with fail
  refine (obytes_nil _ _).mono ?_
  rintro e w' ⟨rfl, rfl⟩
  go_wp2_with fail
  refine (inum_nil _).mono ?_
  rintro e w2 ⟨rfl, hch2⟩
  have HC2 := Lib.hid (HC1.out.trans hch2)
  clear hch2 HC1
  go_wp2_with fail
  refine (iint_nil _).mono ?_
  rintro e w3 ⟨rfl, hch3⟩
  have HC3 := Lib.hid (HC2.out.trans hch3)
  clear hch3 HC2
  go_wp2_with fail
  refine (ibytes_nil _).mono ?_
  rintro e w4 ⟨rfl, hch4⟩
  have HC4 := Lib.hid (HC3.out.trans hch4)
  clear hch4 HC3
  have HI := Lib.hid (show InIs (w4.alloc (.cells #[.slice none 0 0] 55)) w4.heap.size (.slice none 0 0) 0 (fun _ => 0) from ⟨Boxed.new w4 _ _, nil_row _ _, nn_none⟩)
  go_wp2_with fail
  refine (inum_any w4.heap.size 0 _ _ 0 6 _ HI.out (rd_short (by omega) (fun i hi => absurd hi (Nat.not_lt_zero i)))).mono ?_
  rintro e w5 ⟨rfl, x5, h5, _, hch5⟩
  rw [show (resV T63 (fun _ => 0) 0 6 : Int) = 0 from rfl, show (resE T63 (fun _ => 0) 0 6 : Int) = 6 from rfl]
  have HI5 := Lib.hid h5
  have HC5 := Lib.hid ((HC4.out.alloc #[.slice none 0 0] 55).newer hch5 HC4.out.size)
  clear h5 hch5 HI HC4
  go_wp2_with fail
  refine (all_nil _).mono ?_
  rintro e w' ⟨rfl, rfl⟩
  go_wp2_with fail
  refine (left_nil _).mono ?_
  rintro e w' ⟨rfl, rfl⟩
  go_wp2_with fail
  refine (left_any _ _ _ _ _ HI5.out).mono ?_
  rintro e w' ⟨rfl, rfl⟩
  go_wp2
  go_ret
  exact ⟨rfl, HC5.out⟩
#print axioms codeNone_of
end Go.Proofs.Ytfnmdcfnojgofaa
