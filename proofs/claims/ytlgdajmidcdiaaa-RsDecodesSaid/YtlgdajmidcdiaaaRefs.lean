/-
  The document's Cauchy, walked; One and Cauchy where they are told an error.
-/
import Derived.Test.YtlgdajmidcdiaaaBld
namespace Go.Proofs.Ytlgdajmidcdiaaa
open Go.RowKit
set_option linter.unusedVariables false

/-- What the law of append asks of one element more. -/
structure App (e : TypeId) (base : Nat) (W : World) (v x : Value) (k : Nat) (xs : List Value) : Prop where
  o : (W.alloc (.cells #[x] e)).ownsRow base e 1 v k xs
  n : ∀ j u, [x][j]? = some u → (W.alloc (.cells #[x] e)).cell? ((⟨W.heap.size, 0, none⟩ : Addr).add j) = some u
  c : ∀ u ∈ [x], u.oneCell' = true
  b : base ≤ (W.alloc (.cells #[x] e)).heap.size
  s : (W.alloc (.cells #[x] e)).heap.size = W.heap.size + 1
  m : k + 1 ≤ maxLen
theorem app_mk {e : TypeId} {base : Nat} {W : World} {v x : Value} {k : Nat} {xs : List Value} (h : W.ownsRow base e 1 v k xs) (hb : base ≤ W.heap.size) (hx : x.oneCell' = true) (hk : k ≤ 65536) : App e base W v x k xs :=
  ⟨h.alloc _, one_news W x e, fun u hu => by rw [List.mem_singleton] at hu; rw [hu]; exact hx, by simp; omega, by simp, by unfold maxLen; omega⟩
/-- One byte more. -/
theorem row_more {base : Nat} {w0 w w' : World} {v : Value} {k g cap : Nat} {z : Nat → Nat} (hc : Ch (fun _ => False) w0 w) (h1 : w.ownsRow base /-t-/5 1 v k (bytesL k z)) (hb : w0.heap.size ≤ base) (c : Array Value) (t : TypeId)
    (h : w'.ownsRow base /-t-/5 1 (.slice (some ⟨g, 0, none⟩) (k + 1) cap) (k + 1) (bytesL k z ++ [Value.int .u8 (z k : Int)])) (hg : (w.alloc (.cells c t)).grownBy w' v.ownBlock) :
    w'.ownsRow base /-t-/5 1 (.slice (some ⟨g, 0, none⟩) (k + 1) cap) (k + 1) (bytesL (k + 1) z) ∧ Ch (fun _ => False) w0 w' :=
  ⟨by rw [bytesL_snoc]; exact h, (hc.alloc c t).grown hg (fun i hi => Or.inr (Nat.le_trans hb (World.ownsRow.lt h1 i hi).1))⟩
theorem off_new {base b2 : Nat} {w0 w : World} {v rv : Value} {k c : Nat} {xs ys : List Value} {e : TypeId} (h1 : w0.ownsRow base /-t-/33 1 v k xs) (hch : Ch (fun _ => False) w0 w) (h2 : w.ownsRow w0.heap.size e 1 rv c ys) {lo : Nat} (hlo : lo ≤ w0.heap.size) :
    ∀ b, rv.ownBlock = some b → b < w.heap.size ∧ v.ownBlock ≠ some b ∧ Far lo w b := fun b hb => by
  have := World.ownsRow.lt h2 b hb
  refine ⟨this.2, fun q => ?_, Far.owns h2 hb (by omega)⟩
  have := (World.ownsRow.lt h1 b q).2
  omega

set_option maxHeartbeats 400000 in
theorem rone_no (n : Int) (h : ¬ (1 ≤ n ∧ n ≤ 64)) (w : World) : Calls Try.prog 26 #[.int .i64 n] w (ErrPost 1 w) := by
  by_cases h1 : 1 ≤ n
  · have t1 : decide (n < 1) = false := by simp; omega
    have t2 : decide (64 < n) = true := by simp; omega
    go_enter Try.func26, Try.ntmps26
    go_wp2
    go_ret2
    exact ⟨rfl, Ch.refl _ _⟩
  · have t1 : decide (n < 1) = true := by simp; omega
    go_enter Try.func26, Try.ntmps26
    go_wp2
    go_ret2
    exact ⟨rfl, Ch.refl _ _⟩
set_option maxHeartbeats 800000 in
theorem rcauchy_no (n m : Int) (h : ¬ (1 ≤ n ∧ n ≤ 64 ∧ 1 ≤ m ∧ m ≤ 64)) (w : World) : Calls Try.prog 27 #[.int .i64 n, .int .i64 m] w (ErrPost 1 w) := by
  by_cases h1 : 1 ≤ n
  · have t1 : decide (n < 1) = false := by simp; omega
    by_cases h2 : 1 ≤ m
    · have t2 : decide (m < 1) = false := by simp; omega
      by_cases h3 : n ≤ 64
      · have t3 : decide (64 < n) = false := by simp; omega
        have t4 : decide (64 < m) = true := by simp; omega
        go_enter Try.func27, Try.ntmps27
        go_wp2
        go_ret2
        exact ⟨rfl, Ch.refl _ _⟩
      · have t3 : decide (64 < n) = true := by simp; omega
        go_enter Try.func27, Try.ntmps27
        go_wp2
        go_ret2
        exact ⟨rfl, Ch.refl _ _⟩
    · have t2 : decide (m < 1) = true := by simp; omega
      go_enter Try.func27, Try.ntmps27
      go_wp2
      go_ret2
      exact ⟨rfl, Ch.refl _ _⟩
  · have t1 : decide (n < 1) = true := by simp; omega
    go_enter Try.func27, Try.ntmps27
    go_wp2
    go_ret2
    exact ⟨rfl, Ch.refl _ _⟩

set_option maxHeartbeats 1600000 in
set_option maxRecDepth 100000 in
theorem rcauchy_new (n m : Int) (n1 : 1 ≤ n) (n2 : n ≤ 64) (m1 : 1 ≤ m) (m2 : m ≤ 64) (w : World) : Calls Try.prog 27 #[.int .i64 n, .int .i64 m] w (FreshPost n.toNat m.toNat (cauZ m.toNat) w) := by
  obtain ⟨n, rfl⟩ := Int.eq_ofNat_of_zero_le (show 0 ≤ n by omega)
  obtain ⟨m, rfl⟩ := Int.eq_ofNat_of_zero_le (show 0 ≤ m by omega)
  rw [Int.toNat_natCast, Int.toNat_natCast]
  have t1 : decide ((n : Int) < 1) = false := by simp; omega
  have t2 : decide ((m : Int) < 1) = false := by simp; omega
  have t3 : decide ((64 : Int) < (n : Int)) = false := by simp; omega
  have t4 : decide ((64 : Int) < (m : Int)) = false := by simp; omega
  obtain ⟨i0, hi, hz0, hz1, hz2⟩ := info_parts Try.info33
  obtain ⟨j0, gi, gz0, gz1, gz2⟩ := info_parts Try.info5
  go_enter Try.func27, Try.ntmps27
  go_wp2
  go_loopw [6, 7, 8, 9] (fun v i _ _ wr => ∃ k : Nat, k ≤ n ∧ i = .int .i64 k ∧ Ch (fun _ => False) w wr ∧ Bld w.heap.size wr v k (fun _ => m) (cauZ m)) (fun _ i _ _ _ => n - (intOf i).toNat)
  case atStart => exact ⟨0, Nat.zero_le _, rfl, Ch.refl _ _, Bld.nil _ _ _ _⟩
  case round =>
    obtain ⟨k, hk, rfl, hch, hbld⟩ := hrel
    by_cases hlt : k < n
    · obtain ⟨wo, rfl⟩ : ∃ wo : World, wo = wr := ⟨_, rfl⟩
      obtain ⟨xs, ho, hrows⟩ := hbld
      have HO := Lib.hid ho
      have HR := Lib.hid hrows
      have HCH := Lib.hid hch
      clear ho hrows hch
      go_wp2
      go_loopw [8, 9] (fun v i wi => ∃ c : Nat, c ≤ m ∧ i = .int .i64 c ∧ Ch (fun _ => False) wo wi ∧ wi.ownsRow wo.heap.size /-t-/5 1 v c (bytesL c (cauZ m k))) (fun _ i _ => m - (intOf i).toNat)
      case atStart => exact ⟨0, Nat.zero_le _, rfl, Ch.refl _ _, World.ownsRow_nil _ _ _ _⟩
      case round =>
        obtain ⟨c, hc, rfl, hch2, hrow⟩ := hrel
        by_cases hlt2 : c < m
        · have HV := Lib.hid (show qv 1 (xr (m + k) c) = (cauZ m k c : Int) from by rw [qv_pos (cau_sum hlt2)]; rfl)
          have hx : xr (m + k) c < 256 := Gf.xor_lt (by omega) (by omega)
          have HT := Lib.hid (show ((m : Int) + (k : Int)).toNat = m + k by omega)
          have HA := Lib.hid (app_mk (x := .int .u8 (cauZ m k c : Int)) hrow hch2.size rfl (by omega))
          have HRW := Lib.hid hrow
          have HC2 := Lib.hid hch2
          have HM2 := Lib.hid (show (c + 1) * 1 ≤ 140737488355328 by omega)
          clear hrow hch2
          go_wp2_with fail
          refine (radd_any _ _ (by omega) (by omega) (by omega) (by omega) _).mono ?_
          rintro e w1 ⟨rfl, rfl⟩
          rw [HT.out, Int.toNat_natCast]
          go_wp2_with fail
          refine (rdiv_any _ _ (by omega) (by omega) (by omega) (by omega) _).mono ?_
          rintro e w1 ⟨rfl, rfl⟩
          rw [Int.toNat_natCast, show (1 : Int).toNat = 1 from rfl, HV.out]
          go_wp2_with (at_builtin; refine wpList_append_lies _ rfl _ _ /-t-/33 rfl wo.heap.size /-t-/5 j0 (.int .u8 0) 1 1 Try.underlying33 gi gz0 gz1 gz2 rfl (by decide) _ c (bytesL c (cauZ m k)) rfl HA.out.o ⟨wr.heap.size, 0, none⟩ 1 1 [.int .u8 (cauZ m k c : Int)] rfl rfl HA.out.n HA.out.c (by decide) HA.out.m HM2.out HA.out.b (wr.heap.size + 1) HA.out.s ?_; intro g cap w1 h1 h2 h3 h4)
          have hnext := row_more HC2.out HRW.out (Nat.le_refl _) _ _ h1 h2
          clear h1 h2 h3 h4
          go_wp2
          go_roundw
          case rel => exact ⟨c + 1, by omega, by go_num, hnext.2, hnext.1⟩
          case measure => simp [intOf]; omega
        · have HE := Lib.hid (show c = m by omega)
          rw [HE.out] at hrow
          have hX : RowV wr u8 m (cauZ m k) := ownsRow_rowV hrow (by omega) (fun q _ => cauZ_lt _ _ _)
          obtain ⟨A, C, rfl, _⟩ := id hX
          have hxb := off_new (b2 := 0) HO.out hch2 hrow HCH.out.size
          have ho2 := ownsRow_ch HO.out hch2
          have HA := Lib.hid (app_mk (x := .slice A m C) ho2 (Nat.le_trans HCH.out.size hch2.size) rfl (by omega))
          have HR2 := Lib.hid (show ∀ r, r < k → ∃ x, xs[r]? = some x ∧ RowV wr x m (cauZ m r) ∧ ∀ b, x.ownBlock = some b → b < wr.heap.size ∧ u6.ownBlock ≠ some b ∧ Far w.heap.size wr b from fun r hr => by
            obtain ⟨x, hx, hv, hoo⟩ := HR.out r hr
            exact ⟨x, hx, hv.ch hch2 (fun _ _ f => f), fun b hb => ⟨Nat.lt_of_lt_of_le (hoo b hb).1 hch2.size, (hoo b hb).2.1, (hoo b hb).2.2.ch hch2 (hoo b hb).1⟩⟩)
          have HX := Lib.hid hX
          have HXB := Lib.hid hxb
          have HO2 := Lib.hid ho2
          have HC2 := Lib.hid (HCH.out.trans hch2)
          have HM2 := Lib.hid (show (k + 1) * 24 ≤ 140737488355328 by omega)
          clear hX hxb ho2 hch2 hrow
          go_wp2_with (at_builtin; refine wpList_append_lies _ rfl _ _ /-t-/22 rfl w.heap.size /-t-/33 i0 (.slice none 0 0) 1 24 Try.underlying22 hi hz0 hz1 hz2 rfl (by decide) u6 k xs rfl HA.out.o ⟨wr.heap.size, 0, none⟩ 1 1 [.slice A m C] rfl rfl HA.out.n HA.out.c (by decide) HA.out.m HM2.out HA.out.b (wr.heap.size + 1) HA.out.s ?_; intro g cap w1 h1 h2 h3 h4)
          have hnb : Bld w.heap.size w1 (.slice (some ⟨g, 0, none⟩) (k + 1) cap) (k + 1) (fun _ => m) (cauZ m) := Bld.more _ HO2.out HR2.out HX.out HXB.out h1 h2 h3
          have hnc : Ch (fun _ => False) w w1 := Bld.moreCh _ _ HC2.out HO2.out (Nat.le_refl _) h2
          clear h1 h2 h3 h4
          go_wp2
          go_roundw
          case rel => exact ⟨k + 1, by omega, by go_num, hnc, hnb⟩
          case measure => simp [intOf]; omega
    · have HE := Lib.hid (show k = n by omega)
      obtain ⟨A, C, rfl, _⟩ := id (hbld.mat (by omega))
      have HM := Lib.hid hbld
      clear hbld
      go_wp2
      go_ret2
      exact ⟨_, rfl, by have := HM.out; rw [HE.out] at this; rw [HE.out]; exact this, hch⟩
theorem rcauchy_yes (n m : Int) (n1 : 1 ≤ n) (n2 : n ≤ 64) (m1 : 1 ≤ m) (m2 : m ≤ 64) (w : World) : Calls Try.prog 27 #[.int .i64 n, .int .i64 m] w (MatPost n.toNat m.toNat (cauZ m.toNat) w) := (rcauchy_new n m n1 n2 m1 m2 w).mono fun _ _ h => h.mat (by omega)
#print axioms rcauchy_yes
end Go.Proofs.Ytlgdajmidcdiaaa
