/-
  A nil tree.
-/
import Derived.Test.YtkpgaejmhddkdaaTrFh
namespace Go.Proofs.Ytkpgaejmhddkdaa
open Go.RowKit
set_option linter.unusedVariables false
set_option maxRecDepth 100000
set_option linter.unusedSimpArgs false

theorem put_none (k : ByteArray) (v : Int) (w : World) : Calls Try.prog 23 #[.pointer none, .string k, .int .i64 v] w (Ans (.bool false) w) := by
  have HC := Lib.hid (Ch.refl (fun _ => False) w)
  go_enter Try.func23, Try.ntmps23
  go_wp2_with fail
  go_ret
  exact ⟨rfl, HC.out⟩
theorem len_none (w : World) : Calls Try.prog 15 #[.pointer none] w (Ans (.int .i64 0) w) := by
  have HC := Lib.hid (Ch.refl (fun _ => False) w)
  go_enter Try.func15, Try.ntmps15
  go_wp2_with fail
  go_ret
  exact ⟨rfl, HC.out⟩
theorem deep_none (w : World) : Calls Try.prog 19 #[.pointer none] w (Ans (.int .i64 0) w) := by
  have HT := Lib.hid (ttop_none w)
  go_enter Try.func19, Try.ntmps19
  go_wp2_with fail
  refine HT.out.mono ?_
  rintro e w1 ⟨rfl, rfl⟩
  clear HT
  go_wp2_with fail
  go_loopw [3, 4] (fun d p wr => d = .int .i64 0 ∧ p = .pointer none ∧ Hid (wr = w1)) (fun _ _ _ => 0)
  case atStart => exact ⟨rfl, rfl, Lib.hid rfl⟩
  case round =>
    obtain ⟨rfl, rfl, HW⟩ := hrel
    go_wp2_with fail
    go_ret
    exact ⟨rfl, by rw [HW.out]; exact Ch.refl _ _⟩
theorem get_none (k : ByteArray) (w : World) : Calls Try.prog 14 #[.pointer none, .string k] w (Ans (.tuple #[.int .i64 0, .bool false]) w) := by
  have HT := Lib.hid (ttop_none w)
  go_enter Try.func14, Try.ntmps14
  go_wp2_with fail
  refine HT.out.mono ?_
  rintro e w1 ⟨rfl, rfl⟩
  clear HT
  go_wp2_with fail
  go_loopw [6] (fun p wr => p = .pointer none ∧ Hid (wr = w1)) (fun _ _ => 0)
  case atStart => exact ⟨rfl, Lib.hid rfl⟩
  case round =>
    obtain ⟨rfl, HW⟩ := hrel
    go_wp2_with fail
    go_ret2
    exact ⟨rfl, by rw [HW.out]; exact Ch.refl _ _⟩
theorem del_none (k : ByteArray) (w : World) : Calls Try.prog 22 #[.pointer none, .string k] w (Ans (.bool false) w) := by
  have HG := Lib.hid (get_none k w)
  go_enter Try.func22, Try.ntmps22
  go_wp2_with fail
  refine HG.out.mono ?_
  rintro e w1 ⟨rfl, hc⟩
  have HC := Lib.hid hc
  clear hc
  go_wp2_with fail
  go_ret
  exact ⟨rfl, HC.out⟩
#print axioms del_none
set_option maxHeartbeats 1600000 in
theorem treeNone_of (k : ByteArray) (v : Int) (w : World) : Calls Try.prog 7 #[.string k, .int .i64 v] w (Told w) := by
  have HUP := Lib.hid (fun w => awake_any w)
  have HP := Lib.hid (fun w => put_none k v w)
  have HG := Lib.hid (fun w => get_none k w)
  have HD := Lib.hid (fun w => del_none k w)
  have HTL := Lib.hid (fun w => told_any none 0 [] k (-1) (by decide) w ⟨rfl, rfl⟩)
  have HL := Lib.hid (fun w => len_none w)
  have HE := Lib.hid (fun w => deep_none w)
  go_enter Try.func7, Try.ntmps7
  go_wp2_with fail
  refine (HUP.out _).mono ?_
  rintro e w1 ⟨rfl, hc1⟩
  have HC1 := Lib.hid hc1
  clear hc1
  go_wp2_with fail
  refine (HP.out _).mono ?_
  rintro e w2 ⟨rfl, hc2⟩
  have HC2 := Lib.hid (HC1.out.trans hc2)
  clear hc2
  go_wp2_with fail
  refine (HG.out _).mono ?_
  rintro e w3 ⟨rfl, hc3⟩
  have HC3 := Lib.hid (HC2.out.trans hc3)
  clear hc3
  go_wp2_with fail
  refine (HD.out _).mono ?_
  rintro e w4 ⟨rfl, hc4⟩
  have HC4 := Lib.hid (HC3.out.trans hc4)
  clear hc4
  go_wp2_with fail
  refine (HTL.out _).mono ?_
  rintro e w5 ⟨vl, rfl, hl, hc5⟩
  obtain ⟨A, C, hv⟩ := hl.len
  have hv2 : vl = .slice A 0 C := hv
  subst hv2
  have HC5 := Lib.hid (HC4.out.trans hc5)
  clear hc5 hl hv
  go_wp2_with fail
  refine (HL.out _).mono ?_
  rintro e w6 ⟨rfl, hc6⟩
  have HC6 := Lib.hid (HC5.out.trans hc6)
  clear hc6
  go_wp2_with fail
  refine (HE.out _).mono ?_
  rintro e w7 ⟨rfl, hc7⟩
  have HC7 := Lib.hid (HC6.out.trans hc7)
  clear hc7
  go_wp2_with fail
  go_ret
  exact ⟨rfl, HC7.out⟩
#print axioms treeNone_of
end Go.Proofs.Ytkpgaejmhddkdaa
