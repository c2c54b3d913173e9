/-
  DiskDoes, walked: any calls of any device answer, and leave on it, what the document says.
-/
import Derived.Test.YtkbhpkpacojpcaaDrL
namespace Go.Proofs.Ytkbhpkpacojpcaa
open Go.RowKit
set_option linter.unusedVariables false

/-- Between two rounds. -/
structure DoSt (w0 w : World) (B C t : Nat) : Prop where
  dev : ∃ d, Bo w0 w B C d d ∧ d.n ≤ 20 ∧ Lim d t ∧ LimM d t
theorem DoSt.start {w w1 w2 w3 : World} {B C n : Nat} {F : Nat → Prop} {q : Rh} (h : OneX w (fun _ => False) B (dev0 n) w2) (hq : q.B = C) (h2 : RefIs w.heap.size (fun i => w2.heap.size ≤ i ∧ i < w3.heap.size) w3 q (dev0 n)) (k : Ch (fun _ => False) w2 w3) (hn : n ≤ 20) : DoSt w w3 B C 0 := by
  obtain ⟨p, hp, h3, _⟩ := h.dev
  refine ⟨dev0 n, ⟨h.ch.trans k, _, p, q, hp, hq, h3.gr k, h2, fun i hi hf => ?_⟩, hn, ⟨Nat.le_refl _, Nat.le_refl _, fun _ => Nat.le_refl _⟩, fun _ => Nat.le_refl _⟩
  have := (h3.foot hi).2
  omega
theorem DoSt.ch {w0 w : World} {B C t : Nat} (h : DoSt w0 w B C t) : Ch (fun _ => False) w0 w := by
  obtain ⟨d, h1, _⟩ := h.dev
  exact h1.ch
set_option maxHeartbeats 3200000 in
set_option maxRecDepth 100000 in
theorem diskDoes_any (N : Int) (A : Option Addr) (n C0 : Nat) (F : Nat → OpD) (w : World) (hN : -9223372036854775808 ≤ N ∧ N ≤ 9223372036854775807) (h : RowO w (.slice A n C0) n F) : Calls Try.prog 3 #[.int .i64 N, .slice A n C0] w (Told w) := by
  have hn63 : n ≤ 9223372036854775807 := by obtain ⟨_, _, _, h1, _⟩ := h; exact h1
  by_cases h1 : 20 < N
  · clear h
    go_enter Try.func3, Try.ntmps3
    go_wp2_with fail
    refine (awake_any _).mono ?_
    rintro e w1 ⟨rfl, hc1⟩
    have HC1 := Lib.hid hc1
    clear hc1
    go_wp2
    go_ret
    exact ⟨rfl, HC1.out⟩
  by_cases hbig : 60 < n
  · clear h
    go_enter Try.func3, Try.ntmps3
    go_wp2_with fail
    refine (awake_any _).mono ?_
    rintro e w1 ⟨rfl, hc1⟩
    have HC1 := Lib.hid hc1
    clear hc1
    go_wp2
    go_ret
    exact ⟨rfl, HC1.out⟩
  have hn60 : n ≤ 60 := by omega
  have t0 : decide (20 < N) = false := by simpa using h1
  by_cases hlo : N < 1
  · have HB1 := Lib.hid (fun w => new_bad N w (Or.inl hlo))
    have HB2 := Lib.hid (fun w => rnew_bad N w (Or.inl hlo))
    clear h
    go_enter Try.func3, Try.ntmps3
    go_wp2_with fail
    refine (awake_any _).mono ?_
    rintro e w1 ⟨rfl, hc1⟩
    have HC1 := Lib.hid hc1
    clear hc1
    go_wp2_with fail
    refine (HB1.out _).mono ?_
    rintro e w2 ⟨rfl, rfl⟩
    go_wp2_with fail
    refine (HB2.out _).mono ?_
    rintro e w3 ⟨rfl, rfl⟩
    clear HB1 HB2
    go_wp2_with fail
    go_loopw [10] (fun i wr => i = .int .i64 0 ∧ wr = w1) (fun _ _ => 0)
    case atStart => exact ⟨rfl, rfl⟩
    case round =>
      obtain ⟨rfl, rfl⟩ := hrel
      by_cases hz : (0 : Int) < (n : Int)
      · go_wp2
        go_ret
        exact ⟨rfl, HC1.out⟩
      · go_wp2
        go_ret
        exact ⟨rfl, HC1.out⟩
  obtain ⟨m, rfl⟩ : ∃ m : Nat, N = (m : Int) := ⟨N.toNat, by omega⟩
  have hm1 : 1 ≤ m := by omega
  have hm20 : m ≤ 20 := by omega
  have HO := Lib.hid h
  have HM := Lib.hid (And.intro hm1 hm20)
  clear h h1 hbig hn63 hN hlo
  go_enter Try.func3, Try.ntmps3
  go_wp2_with fail
  refine (awake_any _).mono ?_
  rintro e w1 ⟨rfl, hc1⟩
  have HC1 := Lib.hid hc1
  clear hc1
  go_wp2_with fail
  refine (OneX.new (X := fun _ => False) m w1 HM.out.1 (by have := HM.out.2; omega) w HC1.out (fun _ f => f.elim)).mono ?_
  rintro e w2 ⟨B, rfl, h2⟩
  have H2 := Lib.hid h2
  clear h2
  go_wp2_with fail
  refine (rnew_any m w2 HM.out.1 (by have := HM.out.2; omega)).mono ?_
  rintro e w3 ⟨C, rfl, h3, hc3⟩
  obtain ⟨q, hq, hr⟩ := h3 w.heap.size H2.out.ch.size
  have HST := Lib.hid (DoSt.start (w1 := w1) (F := fun _ => False) H2.out hq hr hc3 HM.out.2)
  clear h3 hc3 hq hr H2 HC1
  go_wp2_with fail
  go_loopw [10, 11, 12, 13] (fun i _ _ _ wr => ∃ k : Nat, k ≤ n ∧ i = .int .i64 k ∧ Hid (DoSt w wr B C (24 * k))) (fun i _ _ _ _ => n - (intOf i).toNat)
  case atStart => exact ⟨0, Nat.zero_le _, rfl, HST⟩
  case round =>
    obtain ⟨k, hk, rfl, HK⟩ := hrel
    by_cases hlt : k < n
    · obtain ⟨b0, o, rfl, hops⟩ := HO.out.at (by omega)
      obtain ⟨x, hx⟩ : ∃ x, x = F k := ⟨_, rfl⟩
      have hop0 : OpAt w b0 (o + k * 14) x := by rw [hx]; exact hops k hlt
      obtain ⟨d, hbo, hdn, hli, hlm⟩ := HK.out.dev
      have hop : OpAt wr b0 (o + k * 14) x := hop0.gr hbo.ch
      have HLD := Lib.hid hop.load
      have HOK := Lib.hid hop0.ok
      have HQ := Lib.hid hop0.keep
      have i1 : (0 : Int) ≤ (k : Int) := Int.natCast_nonneg _
      have i2 : (k : Int) < (n : Int) := by omega
      have HD := Lib.hid (hbo.does HOK.out hli hlm (by omega) HQ.out)
      have HL1 := Lib.hid (And.intro hli hlm)
      obtain ⟨l1, l2⟩ := (near_does d x).lim hli hlm
      obtain ⟨d', hd'⟩ : ∃ d', d' = doesD d x := ⟨_, rfl⟩
      obtain ⟨E, hE⟩ : ∃ E, E = doesE d x := ⟨_, rfl⟩
      have hn' : d'.n ≤ 20 := by rw [hd', (near_does d x).n]; exact hdn
      rw [← hd'] at l1 l2
      rw [← hd', ← hE] at HD
      have HDE := Lib.hid (And.intro hd' hE)
      have HL2 := Lib.hid (And.intro l1 l2)
      have HN' := Lib.hid hn'
      have HOP := Lib.hid hop0
      have te : (E != E) = false := by simp
      clear hop hop0 hops hx hbo hdn hli hlm l1 l2 hd' hE hn'
      go_wp2_with ((with_reducible refine wpList_isOp (.load 37 (.tmp 64)) rfl ?_); refine wpList_loading _ rfl 37 (.tmp 64) rfl (.agg (opC x)) ⟨b0, o + k * 14, none⟩ (by simp [Act.eval]) (by exact HLD.out) ?_)
      refine HD.out.mono ?_
      rintro e w4 ⟨rfl, h4⟩
      have HB4 := Lib.hid h4
      have HLD4 := Lib.hid (HOP.out.gr h4.ch).load
      have HR := Lib.hid (h4.did HOK.out HL1.out.1 HL1.out.2 (by omega) HQ.out)
      rw [← HDE.out.1, ← HDE.out.2] at HR
      clear h4 HD HLD
      go_wp2_with ((with_reducible refine wpList_isOp (.load 37 (.tmp 70)) rfl ?_); refine wpList_loading _ rfl 37 (.tmp 70) rfl (.agg (opC x)) ⟨b0, o + k * 14, none⟩ (by simp [Act.eval]) (by exact HLD4.out) ?_)
      refine HR.out.mono ?_
      rintro e w5 ⟨rfl, h5⟩
      have HSM := Lib.hid (lsame_any w w5 B C d' (24 * k + 1) h5 HL2.out.1 (by omega))
      clear h5 HR HLD4 HB4
      go_wp2_with fail
      refine HSM.out.mono ?_
      rintro e w6 ⟨rfl, h6⟩
      have HNX := Lib.hid (show DoSt w w6 B C (24 * (k + 1)) from ⟨_, h6, by rw [rdN_n]; exact HN'.out, by
        have := rdN_lim HL2.out.1 (d'.n + 2)
        have h20 := HN'.out
        exact this.up (by omega), fun a => Nat.le_trans (rdN_limM HL2.out.2 (d'.n + 2) a) (by omega)⟩)
      clear h6 HSM
      go_wp2
      go_roundw
      case rel => exact ⟨k + 1, by omega, by go_num, HNX⟩
      case measure => simp [intOf]; omega
    · obtain rfl : k = n := by omega
      have HE := Lib.hid HK.out.ch
      go_wp2
      go_ret
      exact ⟨rfl, HE.out⟩
theorem diskDoes_of (a : Int) (v : Value) (w : World) {n : Nat} {F : Nat → OpD} (ha : -9223372036854775808 ≤ a ∧ a ≤ 9223372036854775807) (h : RowO w v n F) : Calls Try.prog 3 #[.int .i64 a, v] w (Told w) := by
  obtain ⟨A, C, rfl, _⟩ := id h
  exact diskDoes_any a A n C F w ha h
#print axioms diskDoes_of
end Go.Proofs.Ytkbhpkpacojpcaa
