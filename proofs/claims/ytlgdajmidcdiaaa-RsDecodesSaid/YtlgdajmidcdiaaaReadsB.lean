/-
  The document's May, Same, walked; mat.pivot.
-/
import Derived.Test.YtlgdajmidcdiaaaReads
namespace Go.Proofs.Ytlgdajmidcdiaaa
open Go.RowKit
set_option linter.unusedVariables false

set_option maxHeartbeats 1600000 in
set_option maxRecDepth 100000 in
theorem rmay_any (v : Value) (n : Nat) (L : Nat → Nat) (Z : Nat → Nat → Nat) (w : World) (h : MatV w v n L Z) :
    Calls Try.prog 19 #[v] w (Qu (.bool (mayB n L)) w) := by
  by_cases hn : 0 < n
  · obtain ⟨b, o, C, rfl, hb, hr⟩ := h.some hn
    clear h
    by_cases h64 : n ≤ 64
    · obtain ⟨A0, D0, c0, l0, _⟩ := hr 0 hn
      rw [Nat.add_zero] at c0
      have HR := Lib.hid hr
      clear hr
      have i0 : (0 : Int) < (n : Int) := by omega
      have t1 : decide ((n : Int) < 1) = false := by simp; omega
      have t2 : decide ((64 : Int) < (n : Int)) = false := by simp; omega
      have C0 := Lib.hid c0
      clear c0
      go_enter Try.func19, Try.ntmps19
      go_wp2
      go_loopw [3] (fun i wr => ∃ k : Nat, k ≤ n ∧ i = .int .i64 k ∧ (∃ d, wr = w.drewN d) ∧ Hid (∀ r, r < k → 1 ≤ L r ∧ L r ≤ 4096 ∧ L r = L 0)) (fun i _ => n - (intOf i).toNat)
      case atStart => exact ⟨0, Nat.zero_le _, rfl, ⟨0, rfl⟩, fun r hr => absurd hr (Nat.not_lt_zero r)⟩
      case round =>
        obtain ⟨k, hk, rfl, ⟨d, rfl⟩, HK⟩ := hrel
        by_cases hlt : k < n
        · obtain ⟨Ak, Dk, ck, lk, _⟩ := HR.out k hlt
          have c0 := C0.out
          have i1 : (0 : Int) ≤ (k : Int) := Int.natCast_nonneg _
          have i2 : (k : Int) < (n : Int) := by omega
          by_cases g1 : 1 ≤ L k
          · have t3 : decide ((L k : Int) < 1) = false := by simp; omega
            by_cases g2 : L k ≤ 4096
            · have t4 : decide ((4096 : Int) < (L k : Int)) = false := by simp; omega
              by_cases he : L k = L 0
              · have hb' : ((L k : Int) != (L 0 : Int)) = false := by simp [he]
                have HS : Hid (∀ r, r < k + 1 → 1 ≤ L r ∧ L r ≤ 4096 ∧ L r = L 0) := fun r hr => by
                  by_cases e : r = k
                  · rw [e]; exact ⟨g1, g2, he⟩
                  · exact HK r (by omega)
                clear he
                go_wp2
                go_quiet (fail)
                go_wp2
                go_roundw
                case rel => exact ⟨k + 1, by omega, by go_num, ⟨_, rfl⟩, HS⟩
                case measure => simp [intOf]; omega
              · have hb' : ((L k : Int) != (L 0 : Int)) = true := by simp; omega
                have HS := Lib.hid (mayB_no (n := n) (L := L) (fun q => he (q.2.2.2.2 k hlt)))
                clear he
                go_wp2
                go_quiet (fail)
                go_wp2
                go_ret
                exact ⟨ret_bool HS.out.symm, _, World.drewN_drewN _ _ _⟩
            · have t4 : decide ((4096 : Int) < (L k : Int)) = true := by simp; omega
              have HS := Lib.hid (mayB_no (n := n) (L := L) (fun q => g2 (by have := q.2.2.2.2 k hlt; omega)))
              go_wp2
              go_quiet (fail)
              go_wp2
              go_ret
              exact ⟨ret_bool HS.out.symm, _, World.drewN_drewN _ _ _⟩
          · have t3 : decide ((L k : Int) < 1) = true := by simp; omega
            have HS := Lib.hid (mayB_no (n := n) (L := L) (fun q => g1 (by have := q.2.2.2.2 k hlt; omega)))
            go_wp2
            go_quiet (fail)
            go_wp2
            go_ret
            exact ⟨ret_bool HS.out.symm, _, World.drewN_drewN _ _ _⟩
        · have HE := Lib.hid (show k = n by omega)
          go_wp2
          go_ret
          have hk0 := HK.out 0 (by have := HE.out; omega)
          refine ⟨ret_bool (mayB_mk ⟨by omega, h64, hk0.1, hk0.2.1, fun r hr => (HK.out r (by have := HE.out; omega)).2.2⟩).symm, _, rfl⟩
    · have t1 : decide ((n : Int) < 1) = false := by simp; omega
      have t2 : decide ((64 : Int) < (n : Int)) = true := by simp; omega
      have HS := Lib.hid (mayB_no (n := n) (L := L) (fun q => h64 q.2.1))
      go_enter Try.func19, Try.ntmps19
      go_wp2
      go_ret
      exact ⟨ret_bool HS.out.symm, 0, rfl⟩
  · obtain rfl : n = 0 := by omega
    obtain ⟨A, C, rfl⟩ := h.none
    have HS := Lib.hid (mayB_no (n := 0) (L := L) (fun q => by omega))
    go_enter Try.func19, Try.ntmps19
    go_wp2
    go_ret
    exact ⟨ret_bool HS.out.symm, 0, rfl⟩
#print axioms rmay_any

set_option maxHeartbeats 1600000 in
set_option maxRecDepth 100000 in
theorem same_any (v u : Value) (n : Nat) (L : Nat → Nat) (Z : Nat → Nat → Nat) (w : World) (h : MatV w v n L Z) (h2 : MatV w u n L Z) :
    Calls Try.prog 16 #[v, u] w (Qu (.bool true) w) := by
  by_cases hn : 0 < n
  · obtain ⟨b, o, C, rfl, hb, hr⟩ := h.some hn
    obtain ⟨b2, o2, C2, rfl, _, hr2⟩ := h2.some hn
    have HR := Lib.hid hr
    have HR2 := Lib.hid hr2
    clear hr hr2 h h2
    go_enter Try.func16, Try.ntmps16
    go_wp2
    go_loopw [5, 6] (fun i _ wr => ∃ k : Nat, k ≤ n ∧ i = .int .i64 k ∧ ∃ d, wr = w.drewN d) (fun i _ _ => n - (intOf i).toNat)
    case atStart => exact ⟨0, Nat.zero_le _, rfl, 0, rfl⟩
    case round =>
      obtain ⟨k, hk, rfl, d, rfl⟩ := hrel
      by_cases hlt : k < n
      · obtain ⟨A, D, ck, lk, hk3⟩ := HR.out k hlt
        obtain ⟨A2, D2, ck2, _, hk4⟩ := HR2.out k hlt
        have HK3 := Lib.hid hk3
        have HK4 := Lib.hid hk4
        clear hk3 hk4
        have i1 : (0 : Int) ≤ (k : Int) := Int.natCast_nonneg _
        have i2 : (k : Int) < (n : Int) := by omega
        have hb' : ((L k : Int) != (L k : Int)) = false := by simp
        by_cases hl : 0 < L k
        · obtain ⟨a, f, rfl, hc⟩ := HK3.out hl
          obtain ⟨a2, f2, rfl, hc2⟩ := HK4.out hl
          have HC := Lib.hid hc
          have HC2 := Lib.hid hc2
          clear hc hc2
          go_wp2
          go_quiet (fail)
          go_wp2
          go_loopw [6] (fun i wr => ∃ q : Nat, q ≤ L k ∧ i = .int .i64 q ∧ ∃ d, wr = w.drewN d) (fun i _ => L k - (intOf i).toNat)
          case atStart => exact ⟨0, Nat.zero_le _, rfl, _, World.drewN_drewN _ _ _⟩
          case round =>
            obtain ⟨q, hq, rfl, d3, rfl⟩ := hrel
            by_cases hql : q < L k
            · have e1 := (HC.out q hql).1
              have e2 := (HC2.out q hql).1
              have i3 : (0 : Int) ≤ (q : Int) := Int.natCast_nonneg _
              have i4 : (q : Int) < (L k : Int) := by omega
              have hb2 : ((Z k q : Int) != (Z k q : Int)) = false := by simp
              go_wp2
              go_quiet (fail)
              go_wp2
              go_roundw
              case rel => exact ⟨q + 1, by omega, by go_num, _, rfl⟩
              case measure => simp [intOf]; omega
            · go_wp2
              go_roundw
              case rel => exact ⟨k + 1, by omega, by go_num, _, rfl⟩
              case measure => simp [intOf]; omega
        · have hz : L k ≤ 0 := by omega
          go_wp2
          go_quiet (fail)
          go_wp2
          refine wp_loop_rounds 1 ?_
          rw [rounds_succ]
          go_wp2
          go_roundw
          case rel => exact ⟨k + 1, by omega, by go_num, _, rfl⟩
          case measure => simp [intOf]; omega
      · go_wp2
        go_ret
        exact ⟨rfl, d, rfl⟩
  · obtain rfl : n = 0 := by omega
    obtain ⟨A, C, rfl⟩ := h.none
    obtain ⟨A2, C2, rfl⟩ := h2.none
    go_enter Try.func16, Try.ntmps16
    go_wp2
    refine wp_loop_rounds 1 ?_
    rw [rounds_succ]
    go_wp2
    go_ret
    exact ⟨rfl, 0, rfl⟩
#print axioms same_any

def PivPost (n c : Nat) (Z : Nat → Nat → Nat) (w : World) (e : Ending) (w' : World) : Prop :=
  ∃ p : Nat, e = .returned (.int .i64 (p : Int)) ∧ w = w' ∧ c ≤ p ∧ p ≤ n ∧ (∀ r, c ≤ r → r < p → Z r c = 0) ∧ (p < n → 0 < Z p c)
set_option maxHeartbeats 1600000 in
theorem pivot_any (g n m c : Nat) (B : Nat → Nat) (Z : Nat → Nat → Nat) (w : World) (h : Own w g n m B Z) (hn : n ≤ 64) (hm : m ≤ 8192) (hc : c ≤ n) (hcm : c < m) :
    Calls Try.prog 59 #[.slice (some ⟨g, 0, none⟩) n n, .int .i64 c] w (PivPost n c Z w) := by
  have H := Lib.hid h
  clear h
  go_enter Try.func59, Try.ntmps59
  go_wp2
  go_loop [5] (fun i => ∃ k : Nat, c ≤ k ∧ k ≤ n ∧ i = .int .i64 k ∧ Hid (∀ r, c ≤ r → r < k → Z r c = 0)) (fun i => n - (intOf i).toNat)
  case atStart => exact ⟨c, Nat.le_refl _, hc, rfl, fun r h1 h2 => absurd h2 (by omega)⟩
  case round =>
    obtain ⟨k, hck, hk, rfl, HK⟩ := hrel
    by_cases hlt : k < n
    · have t1 : decide ((k : Int) < (n : Int)) = true := by simp; omega
      have c1 := H.out.top.cell hlt
      have c2 := (H.out.row k hlt).cell hcm
      by_cases hz : Z k c = 0
      · have t2 : ((Z k c : Int) == 0) = true := by simp [hz]
        have HS : Hid (∀ r, c ≤ r → r < k + 1 → Z r c = 0) := fun r h1 h2 => by
          by_cases e : r = k
          · rw [e]; exact hz
          · exact HK r h1 (by omega)
        clear hz
        go_wp2
        go_round
        case rel => exact ⟨k + 1, by omega, by omega, by go_num, HS⟩
        case measure => simp [intOf]; omega
      · have t2 : ((Z k c : Int) == 0) = false := by rw [beq_eq_false_iff_ne]; omega
        go_wp2
        go_ret
        exact ⟨k, rfl, rfl, hck, hk, HK.out, fun _ => by omega⟩
    · have t1 : decide (k < n) = false := by simp; omega
      go_wp2
      go_ret
      exact ⟨k, rfl, rfl, hck, hk, HK.out, fun q => absurd q hlt⟩
#print axioms pivot_any
end Go.Proofs.Ytlgdajmidcdiaaa
