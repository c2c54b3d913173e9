/-
  SupPicks, walked.
-/
import Derived.Test.YtjdknebifcdicaaMg32
import Derived.Test.YtjdknebifcdicaaSupTMm
import Derived.Test.YtjdknebifcdicaaOpenYMm
namespace Go.Proofs.Ytjdknebifcdicaa
open Go.RowKit
set_option linter.unusedVariables false
set_option maxRecDepth 100000
attribute [local go_sem] guard_su

set_option maxHeartbeats 6400000 in
theorem supPicks_of {A : Option Addr} {C m : Nat} {g : Nat → Br} (w : World) (hR : RowBs w A m C g) : Calls Try.prog 4 #[.slice A m C] w (Told w) := by
  have HR := Lib.hid hR
  have hle := hR.le
  clear hR
  go_enter Try.func4, Try.ntmps4
  go_wp2_with fail
  refine (awake_any _).mono ?_
  rintro e w2 ⟨rfl, hc2⟩
  have HC2 := Lib.hid hc2
  have HR2 := Lib.hid (HR.out.gr hc2)
  clear hc2
  by_cases hn : 8 < m
  · have t1 : (8 : Int) < (m : Int) := by omega
    clear hn
    go_wp2
    go_ret
    exact ⟨rfl, HC2.out⟩
  have t1 : ¬ (8 : Int) < (m : Int) := by omega
  have HN := Lib.hid hn
  clear hn hle
  go_wp2_with fail
  clear t1
  go_loopw [4] (fun i wr => ∃ k : Nat, k ≤ m ∧ i = .int .i64 k ∧ wr = w2 ∧ Hid (∀ c, c < k → (g c).n ≤ 600)) (fun i _ => m - (intOf i).toNat)
  case atStart => exact ⟨0, Nat.zero_le _, rfl, rfl, Lib.hid fun c hc => absurd hc (Nat.not_lt_zero c)⟩
  case round =>
    obtain ⟨k, hk, rfl, rfl, HK⟩ := hrel
    by_cases hlt : k < m
    · have i1 : (0 : Int) ≤ (k : Int) := Int.natCast_nonneg _
      have i2 : (k : Int) < (m : Int) := by omega
      have i8 : (k : Int) < 8 := by have := HN.out; omega
      obtain ⟨b, o, rfl, hcs⟩ := HR2.out.at' (by omega)
      obtain ⟨hc0, _, hnle, _⟩ := hcs k hlt
      obtain ⟨q, hq⟩ : ∃ q, q = g k := ⟨_, rfl⟩
      rw [← hq] at hc0 hnle
      have HQ := Lib.hid hq
      have HLT := Lib.hid hlt
      clear hcs hq hlt hk
      obtain ⟨qA, qn, qC, qz⟩ := q
      by_cases h6 : 600 < qn
      · have t2 : (600 : Int) < (qn : Int) := by omega
        clear h6
        go_wp2
        go_ret
        exact ⟨rfl, HC2.out⟩
      · have t2 : ¬ (600 : Int) < (qn : Int) := by omega
        have HQN := Lib.hid (show (g k).n ≤ 600 by rw [← HQ.out]; show qn ≤ 600; omega)
        clear h6
        go_wp2
        go_roundw
        case rel =>
          refine ⟨k + 1, HLT.out, by go_num, by trivial, Lib.hid fun c hc => ?_⟩
          by_cases w : c < k
          · exact HK.out c w
          · obtain rfl : c = k := by omega
            exact HQN.out
        case measure => have := HLT.out; simp [intOf]; omega
    · obtain rfl : k = m := by omega
      have HBS := Lib.hid (HR2.out.bs (by have := HN.out; omega) HK.out)
      clear hlt hk
      go_wp2_with fail
      refine (spick_any A k C _ _ _ HBS.out).mono ?_
      rintro e w3 ⟨O, hO, rfl, hc3⟩
      obtain ⟨M, hM⟩ : ∃ M, M = min k 4 := ⟨_, rfl⟩
      rw [← hM] at hO
      rw [← hM]
      obtain ⟨u, hu⟩ : ∃ u, u = optS (pickF O M) := ⟨_, rfl⟩
      obtain ⟨q, hq⟩ : ∃ q, q = (pickF O M).isSome := ⟨_, rfl⟩
      rw [← hu, ← hq]
      obtain ⟨wz4, w4, P, hV4⟩ := varS u w3
      have HC4 := Lib.hid ((HC2.out.trans hc3).trans hV4.ch)
      have HB4 := Lib.hid ((HBS.out.gr hc3).gr hV4.ch)
      have HV4 := Lib.hid hV4
      have HO := Lib.hid hO
      have HU := Lib.hid hu
      have HQ := Lib.hid hq
      have HM := Lib.hid hM
      clear hO hc3 hV4 hu hq hM
      go_wp2_with (first
        | ((with_reducible refine wpList_isOp (.alloc 25) rfl ?_); refine wpList_making _ wz4 rfl 25 rfl (supC sp0) P (zero_su _) (by exact HV4.out.sz) (by exact HV4.out.al) ?_)
        | ((with_reducible refine wpList_isOp (.store 25 (.tmp 5) (.tmp 33)) rfl ?_); refine wpList_storing _ w4 rfl 25 (.tmp 5) (.tmp 33) rfl (.agg (supC u)) ⟨P, 0, none⟩ rfl rfl (by exact HV4.out.st) ?_)
        | fail)
      refine (rpick_any A k C _ _ _ HB4.out).mono ?_
      rintro e w5 ⟨O', hO', rfl, hc5⟩
      have eP : pickF O' (min k 4) = pickF O M := by
        rw [← HM.out]
        rw [← HM.out] at hO'
        exact pickF_congr fun c hc => tell_one (hO' c hc) (HO.out c hc)
      rw [eP, ← HU.out, ← HQ.out]
      obtain ⟨wz6, w6, Q, hV6⟩ := varS u w5
      have HC6 := Lib.hid (HC4.out.trans (hc5.trans hV6.ch))
      obtain ⟨a0, a1, a2, a3, a4, a5, a6, a7, a8, a9, a10, a11⟩ := (su_x HV4.out.cx).gr (hc5.trans hV6.ch)
      obtain ⟨b0, b1, b2, b3, b4, b5, b6, b7, b8, b9, b10, b11⟩ := su_x hV6.cx
      have HV6 := Lib.hid hV6
      clear hO' hc5 hV6 eP
      go_wp2_with (first
        | ((with_reducible refine wpList_isOp (.alloc 25) rfl ?_); refine wpList_making _ wz6 rfl 25 rfl (supC sp0) Q (zero_su _) (by exact HV6.out.sz) (by exact HV6.out.al) ?_)
        | ((with_reducible refine wpList_isOp (.store 25 (.tmp 7) (.tmp 38)) rfl ?_); refine wpList_storing _ w6 rfl 25 (.tmp 7) (.tmp 38) rfl (.agg (supC u)) ⟨Q, 0, none⟩ rfl rfl (by exact HV6.out.st) ?_)
        | fail)
      go_ret
      exact ⟨rfl, HC6.out⟩
#print axioms supPicks_of
end Go.Proofs.Ytjdknebifcdicaa
