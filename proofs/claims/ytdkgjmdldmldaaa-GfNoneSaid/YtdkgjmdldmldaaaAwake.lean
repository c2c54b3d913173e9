/-
  The chapter's examples, as the laws ask them first: they are so.
-/
import Derived.Test.YtdkgjmdldmldaaaField
namespace Go.Proofs.Ytdkgjmdldmldaaa
open Go.RowKit

def AwakePost (w : World) (e : Ending) (w' : World) : Prop := e = .returned (.bool true) ∧ Gr w.heap.size w w'
theorem x1 : Gf.mul 2 128 = 29 := by decide +kernel
theorem x2 : Gf.mul 3 7 = 9 := by decide +kernel
theorem x3 : qv 1 2 = 142 := by decide +kernel
theorem x4 : ze 2 = 0 := by decide +kernel
theorem x5 : Gf.ex (er 8) = 29 := by decide +kernel
theorem x6 : lv 29 = 8 := by decide +kernel
theorem x7 : ze 29 = 0 := by decide +kernel
set_option maxHeartbeats 800000 in
theorem awake_any (w : World) : Calls Try.prog 10 #[] w (AwakePost w) := by
  go_enter Try.func10, Try.ntmps10
  go_wp2_with fail
  refine (new_any _).mono ?_
  rintro e w1 ⟨rfl, hr, hg⟩
  have hv := Rv.full hr
  clear hr
  go_wp2_with fail
  refine (inv_any _ _ (by omega) (by omega) _ hv).mono ?_
  rintro e w2 ⟨rfl, hg2⟩
  have hv2 := hv.gr hg2
  rw [show (2 : Int).toNat = 2 from rfl, x3, x4]
  go_wp2_with fail
  refine (log_any _ _ (by omega) (by omega) _ hv2).mono ?_
  rintro e w3 ⟨rfl, hg3⟩
  have hv3 := hv2.gr hg3
  rw [show (29 : Int).toNat = 29 from rfl, x6, x7]
  go_wp2_with fail
  refine (mul_any _ _ _ (by omega) (by omega) (by omega) (by omega) _ hv3).mono ?_
  rintro e w4 ⟨rfl, hg4⟩
  have hv4 := hv3.gr hg4
  rw [show (2 : Int).toNat = 2 from rfl, show (128 : Int).toNat = 128 from rfl, x1]
  go_wp2_with fail
  refine (mul_any _ _ _ (by omega) (by omega) (by omega) (by omega) _ hv4).mono ?_
  rintro e w5 ⟨rfl, hg5⟩
  have hv5 := hv4.gr hg5
  rw [show (3 : Int).toNat = 3 from rfl, show (7 : Int).toNat = 7 from rfl, x2]
  go_wp2_with fail
  refine (exp_any _ _ (by omega) (by omega) _ hv5).mono ?_
  rintro e w6 ⟨rfl, hg6⟩
  rw [x5]
  go_wp2
  go_ret
  exact ⟨rfl, ((((hg.next hg2).next hg3).next hg4).next hg5).next hg6⟩
#print axioms awake_any
end Go.Proofs.Ytdkgjmdldmldaaa
