/-
  The document's own device (quartermasterref06), walked: differ; Fault of no sector, of no kind, FaultLose, FaultDrop.
-/
import Derived.Test.YtjibfoplihaabaaMg28
namespace Go.Proofs.Ytjibfoplihaabaa
open Go.RowKit
set_option linter.unusedVariables false
set_option maxRecDepth 100000

/-! ### differ -/
namespace Df
def pw (k : Nat) : Nat := 2 ^ k
def dn (a k : Nat) : Nat := a / 2 ^ k
def lo (a b k : Nat) : Nat := (a ^^^ b) % 2 ^ k
theorem xor_odd (a b : Nat) : (a ^^^ b) % 2 = (a % 2) ^^^ (b % 2) := Nat.xor_mod_two_pow (n := 1)
theorem pw_succ (k : Nat) : pw (k + 1) = pw k * 2 := Nat.pow_succ ..
theorem pw_le {k : Nat} (h : k ≤ 8) : pw k ≤ 256 := Nat.pow_le_pow_right (n := 2) (by omega) h
theorem dn_succ (a k : Nat) : dn a (k + 1) = dn a k / 2 := by unfold dn; rw [Nat.pow_succ, Nat.div_div_eq_div_mul]
theorem lo_lt (a b k : Nat) : lo a b k < pw k := Nat.mod_lt _ (Nat.pow_pos (by omega))
theorem lo_bit (a b k : Nat) : lo a b (k + 1) = lo a b k + pw k * ((dn a k % 2) ^^^ (dn b k % 2)) := by
  unfold lo pw dn
  rw [Nat.pow_succ, Nat.mod_mul, Nat.xor_div_two_pow, xor_odd]
theorem lo_yes {a b k : Nat} (h : ¬ dn a k % 2 = dn b k % 2) : lo a b (k + 1) = lo a b k + pw k := by
  rw [lo_bit]
  rcases Nat.mod_two_eq_zero_or_one (dn a k) with ha | ha <;> rcases Nat.mod_two_eq_zero_or_one (dn b k) with hb | hb <;> rw [ha, hb] at h ⊢
  · exact absurd rfl h
  · simp
  · simp
  · exact absurd rfl h
theorem lo_no {a b k : Nat} (h : dn a k % 2 = dn b k % 2) : lo a b (k + 1) = lo a b k := by
  rw [lo_bit, h, Nat.xor_self]; simp
theorem lo_all {a b : Nat} (ha : a < 256) (hb : b < 256) : lo a b 8 = a ^^^ b := Nat.mod_eq_of_lt (xor8 ha hb)
end Df
open Df
set_option maxHeartbeats 800000 in
set_option maxRecDepth 100000 in
theorem rdiffer_any (a b : Nat) (ha : a < 256) (hb : b < 256) (w : World) : Calls Try.prog 42 #[.int .u8 (a : Int), .int .u8 (b : Int)] w fun e w' => e = .returned (.int .u8 ((a ^^^ b : Nat) : Int)) ∧ w = w' := by
  have HE := Lib.hid (lo_all ha hb)
  have H0 := Lib.hid (show dn a 0 = a ∧ dn b 0 = b ∧ lo a b 0 = 0 ∧ pw 0 = 1 from ⟨Nat.div_one a, Nat.div_one b, Nat.mod_one _, rfl⟩)
  have HP0 := Lib.hid (show (∀ k, k ≤ 8 → pw k ≤ 256) ∧ (∀ k, dn a k ≤ 256) ∧ (∀ k, dn b k ≤ 256) from ⟨fun k hk => pw_le hk, fun k => Nat.le_trans (Nat.div_le_self _ _) (Nat.le_of_lt ha), fun k => Nat.le_trans (Nat.div_le_self _ _) (Nat.le_of_lt hb)⟩)
  have HX8 := Lib.hid (xor8 ha hb)
  go_enter Try.func42, Try.ntmps42
  go_wp2
  clear ha hb
  go_loop [5, 6, 7, 8, 9] (fun n p x y i => ∃ k : Nat, k ≤ 8 ∧ i = .int .i64 k ∧ x = .int .i64 (dn a k : Int) ∧ y = .int .i64 (dn b k : Int) ∧ n = .int .i64 (lo a b k : Int) ∧ p = .int .i64 (pw k : Int)) (fun _ _ _ _ i => 8 - (intOf i).toNat)
  case atStart => exact ⟨0, Nat.zero_le _, rfl, by rw [H0.out.1], by rw [H0.out.2.1], by rw [H0.out.2.2.1]; rfl, by rw [H0.out.2.2.2]; rfl⟩
  case round =>
    obtain ⟨k, hk, rfl, rfl, rfl, rfl, rfl⟩ := hrel
    by_cases hlt : k < 8
    · have hp := HP0.out.1 k hk
      have hda := HP0.out.2.1 k
      have hdb := HP0.out.2.2 k
      have hl := lo_lt a b k
      have HX := Lib.hid (dn_succ a k)
      have HY := Lib.hid (dn_succ b k)
      have HP := Lib.hid (pw_succ k)
      by_cases q : dn a k % 2 = dn b k % 2
      · have HL := Lib.hid (lo_no q)
        have t1 : ((dn a k : Int) % 2 != (dn b k : Int) % 2) = false := by simp; omega
        clear q
        go_wp2
        go_round
        case rel => exact ⟨k + 1, by omega, by go_num, by rw [HX.out]; rfl, by rw [HY.out]; rfl, by rw [HL.out], by rw [HP.out]; go_num⟩
        case measure => simp [intOf]; omega
      · have HL := Lib.hid (lo_yes q)
        have t1 : ((dn a k : Int) % 2 != (dn b k : Int) % 2) = true := by simp; omega
        clear q
        go_wp2
        go_round
        case rel => exact ⟨k + 1, by omega, by go_num, by rw [HX.out]; rfl, by rw [HY.out]; rfl, by rw [HL.out]; go_num, by rw [HP.out]; go_num⟩
        case measure => simp [intOf]; omega
    · obtain rfl : k = 8 := by omega
      have h8 := HX8.out
      rw [HE.out]
      obtain ⟨x, hx⟩ : ∃ x, x = a ^^^ b := ⟨_, rfl⟩
      rw [← hx] at h8 ⊢
      have HXX := Lib.hid hx
      clear hx HE HX8
      go_wp2
      go_ret
      exact ⟨ret_int (by rw [HXX.out]), rfl⟩
#print axioms rdiffer_any

/-! ### Fault -/
structure FtR (base : Nat) (F : Nat → Prop) (w w1 : World) (H : Nat) (q : Rh) (d : Dev) (f : Fa) : Prop where
  al : w.alloc (.cells (faC f) 45) = w1
  sz : w.heap.size = H
  x : ∀ n i, (w1.drewN n).cell? ⟨H, i, none⟩ = (faC f)[i]?
  dev : RefIs base F w1 q d
  off : ¬ F H
  ch : Ch F w w1
  le : base ≤ w.heap.size
  fl : ∀ i, F i → base ≤ i ∧ i < w.heap.size
theorem ftR {base : Nat} {F : Nat → Prop} {w : World} {q : Rh} {d : Dev} (f : Fa) (h : RefIs base F w q d) : ∃ w1 H, FtR base F w w1 H q d f := by
  obtain ⟨w1, H, hR⟩ := faR w f
  exact ⟨w1, H, hR.al, hR.sz, fun n i => hR.at i, h.gr hR.ch, fun q => by have := h.hi _ q; have := hR.sz; omega, hR.ch.mono fun _ _ f => f.elim, h.le, fun i hi => h.low' hi⟩
theorem FtR.at {base : Nat} {F : Nat → Prop} {w w1 : World} {H : Nat} {q : Rh} {d : Dev} {f : Fa} (h : FtR base F w w1 H q d f) (i : Nat) : w1.cell? ⟨H, i, none⟩ = (faC f)[i]? := h.x 0 i
theorem FtR.same {base : Nat} {F : Nat → Prop} {w w1 : World} {H : Nat} {q : Rh} {d : Dev} {f : Fa} (h : FtR base F w w1 H q d f) (r : Value) (n : Nat) : RPost base F q.B d r w (.returned r) (w1.drewN n) := RPost.mk (h.dev.gr ((Ch.refl _ w1).drewN n)) (h.ch.drewN n) h.le
set_option maxHeartbeats 800000 in
set_option maxRecDepth 100000 in
theorem rfault_none (base : Nat) (F : Nat → Prop) (q : Rh) (d : Dev) (f : Fa) (w : World) (h : RefIs base F w q d) (hf : FaOk f) (hb : hasB d f.pl = false) :
    Calls Try.prog 24 #[.pointer (some ⟨q.B, 0, none⟩), .agg (faC f)] w (RPost base F q.B d (.int .i64 3) w) := by
  obtain ⟨w1, H, hR⟩ := ftR f h
  have c0 : w1.cell? ⟨q.B, 0, none⟩ = some (.slice (some ⟨q.G, 0, none⟩) d.n q.cG) := hR.dev.cellB 0
  have x1 : w1.cell? ⟨H, 1, none⟩ = some (.int .i64 f.pl) := hR.at 1
  have hr := of_decide_eq_false hb
  have hn := h.nn
  have HR := Lib.hid hR
  have HP := Lib.hid (hR.same (.int .i64 3))
  obtain ⟨B, G, L, P, Q, cG, cL, cP, cQ, V, s, X, m, lf⟩ := q
  clear h hR hf hb
  by_cases ha : f.pl < 0
  · clear hr
    go_enter Try.func24, Try.ntmps24
    go_wp2_with ((with_reducible refine wpList_same ?_); refine wpList_boxing _ w1 rfl 45 (.tmp 1) rfl (faC f) H rfl (by exact HR.out.sz) (by exact HR.out.al) ?_)
    go_quiet (fail)
    go_wp2
    go_ret
    exact HP.out _
  · have ha2 : (d.n : Int) ≤ f.pl := by omega
    clear hr
    go_enter Try.func24, Try.ntmps24
    go_wp2_with ((with_reducible refine wpList_same ?_); refine wpList_boxing _ w1 rfl 45 (.tmp 1) rfl (faC f) H rfl (by exact HR.out.sz) (by exact HR.out.al) ?_)
    go_quiet (fail)
    go_wp2
    go_ret
    exact HP.out _
#print axioms rfault_none
set_option maxHeartbeats 800000 in
set_option maxRecDepth 100000 in
theorem rfault_arg (base : Nat) (F : Nat → Prop) (q : Rh) (d : Dev) (f : Fa) (w : World) (h : RefIs base F w q d) (hf : FaOk f) (hb : hasB d f.pl = true) (hk : ¬ f.kind = 1 ∧ ¬ f.kind = 2 ∧ ¬ f.kind = 3 ∧ ¬ f.kind = 4 ∧ ¬ f.kind = 5) :
    Calls Try.prog 24 #[.pointer (some ⟨q.B, 0, none⟩), .agg (faC f)] w (RPost base F q.B d (.int .i64 1) w) := by
  obtain ⟨w1, H, hR⟩ := ftR f h
  have c0 : w1.cell? ⟨q.B, 0, none⟩ = some (.slice (some ⟨q.G, 0, none⟩) d.n q.cG) := hR.dev.cellB 0
  have x0 : w1.cell? ⟨H, 0, none⟩ = some (.int .i64 f.kind) := hR.at 0
  have x1 : w1.cell? ⟨H, 1, none⟩ = some (.int .i64 f.pl) := hR.at 1
  have hr := of_decide_eq_true hb
  have hn := h.nn
  have t1 : (f.kind == 1) = false := by simpa using hk.1
  have t2 : (f.kind == 2) = false := by simpa using hk.2.1
  have t3 : (f.kind == 3) = false := by simpa using hk.2.2.1
  have t4 : (f.kind == 4) = false := by simpa using hk.2.2.2.1
  have t5 : (f.kind == 5) = false := by simpa using hk.2.2.2.2
  have a1 : ¬ f.pl < 0 := by omega
  have a2 : f.pl < (d.n : Int) := by omega
  have HR := Lib.hid hR
  have HP := Lib.hid (hR.same (.int .i64 1))
  obtain ⟨B, G, L, P, Q, cG, cL, cP, cQ, V, s, X, m, lf⟩ := q
  clear h hR hf hb hk hr
  go_enter Try.func24, Try.ntmps24
  go_wp2_with ((with_reducible refine wpList_same ?_); refine wpList_boxing _ w1 rfl 45 (.tmp 1) rfl (faC f) H rfl (by exact HR.out.sz) (by exact HR.out.al) ?_)
  go_quiet (fail)
  go_wp2
  go_ret
  exact HP.out _
#print axioms rfault_arg
end Go.Proofs.Ytjibfoplihaabaa
