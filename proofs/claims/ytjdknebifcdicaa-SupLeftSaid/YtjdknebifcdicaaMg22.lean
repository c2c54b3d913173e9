/-
  geo.within, shares, firstShare, firstStripeGroup, end, May, Sectors, Room, Groups, walked.
-/
import Derived.Test.YtjdknebifcdicaaMg21
namespace Go.Proofs.Ytjdknebifcdicaa
open Go.RowKit
set_option linter.unusedVariables false
set_option maxRecDepth 100000

set_option maxHeartbeats 400000 in
theorem within_any (n a b : Int) (w : World) : Calls Try.prog 62 #[.int .i64 n, .int .i64 a, .int .i64 b] w fun e w' => e = .returned (.bool (inB n a b)) ∧ w = w' := by
  by_cases h1 : a ≤ n
  · by_cases h2 : n ≤ b
    · have HE := Lib.hid (show inB n a b = true from inB_true.2 ⟨h1, h2⟩)
      have t1 : decide (a ≤ n) = true := decide_eq_true h1
      have t2 : decide (n ≤ b) = true := decide_eq_true h2
      clear h1 h2
      go_enter Try.func62, Try.ntmps62
      go_wp2
      go_ret
      exact ⟨ret_bool HE.out.symm, rfl⟩
    · have HE := Lib.hid (show inB n a b = false from decide_eq_false fun q => h2 q.2)
      have t1 : decide (a ≤ n) = true := decide_eq_true h1
      have t2 : decide (n ≤ b) = false := decide_eq_false h2
      clear h1 h2
      go_enter Try.func62, Try.ntmps62
      go_wp2
      go_ret
      exact ⟨ret_bool HE.out.symm, rfl⟩
  · have HE := Lib.hid (show inB n a b = false from decide_eq_false fun q => h1 q.1)
    have t1 : decide (a ≤ n) = false := decide_eq_false h1
    clear h1
    go_enter Try.func62, Try.ntmps62
    go_wp2
    go_ret
    exact ⟨ret_bool HE.out.symm, rfl⟩
#print axioms within_any
theorem GeX.all {w : World} {H : Nat} {g : Ge} (h : GeX w H g) : w.cell? ⟨H, 0, none⟩ = some (.int .i64 g.wal) ∧ w.cell? ⟨H, 1, none⟩ = some (.int .i64 g.st) ∧ w.cell? ⟨H, 2, none⟩ = some (.int .i64 g.k) ∧ w.cell? ⟨H, 3, none⟩ = some (.int .i64 g.m) := ⟨h.x0, h.x1, h.x2, h.x3⟩
theorem wrapI_in {x : Int} (h1 : -9223372036854775808 ≤ x) (h2 : x ≤ 9223372036854775807) : IntKind.i64.wrap x = x := by rw [IntKind.wrap_i64]; omega

section
variable (n : Gn) (h : n.Ok) (w : World)
include h
set_option maxHeartbeats 400000 in
theorem shares_any : Calls Try.prog 83 #[.agg (geC n.ge)] w (Ans (.int .i64 (n.q : Int)) w) := by
  obtain ⟨w1, H, hR⟩ := geR w n.ge
  obtain ⟨k, hk⟩ : ∃ k, k = n.K := ⟨_, rfl⟩
  obtain ⟨m, hm⟩ : ∃ m, m = n.M := ⟨_, rfl⟩
  have x2 : w1.cell? ⟨H, 2, none⟩ = some (.int .i64 (k : Int)) := by rw [hk]; exact hR.x.x2
  have x3 : w1.cell? ⟨H, 3, none⟩ = some (.int .i64 (m : Int)) := by rw [hm]; exact hR.x.x3
  have b1 : k ≤ 16 := by rw [hk]; exact h.k2
  have b2 : m ≤ 8 := by rw [hm]; exact h.m2
  have HE := Lib.hid (show (k : Int) + (m : Int) = (n.q : Int) by rw [hk, hm]; unfold Gn.q; omega)
  have HR := Lib.hid hR
  clear hR hk hm h
  go_enter Try.func83, Try.ntmps83
  go_wp2_with ((with_reducible refine wpList_isOp (.box 23 (.tmp 0)) rfl ?_); refine wpList_boxing _ w1 rfl 23 (.tmp 0) rfl (geC n.ge) H rfl (by exact HR.out.sz) (by exact HR.out.al) ?_)
  go_ret
  exact ⟨ret_int HE.out, HR.out.ch⟩
set_option maxHeartbeats 400000 in
theorem firstShare_any : Calls Try.prog 82 #[.agg (geC n.ge)] w (Ans (.int .i64 (n.fs : Int)) w) := by
  obtain ⟨w1, H, hR⟩ := geR w n.ge
  obtain ⟨k, hk⟩ : ∃ k, k = n.W := ⟨_, rfl⟩
  have x0 : w1.cell? ⟨H, 0, none⟩ = some (.int .i64 (k : Int)) := by rw [hk]; exact hR.x.x0
  have b1 : k ≤ 512 := by rw [hk]; exact h.w2
  have HE := Lib.hid (show 4 + 2 * (k : Int) = (n.fs : Int) by rw [hk]; unfold Gn.fs; omega)
  have HR := Lib.hid hR
  clear hR hk h
  go_enter Try.func82, Try.ntmps82
  go_wp2_with ((with_reducible refine wpList_isOp (.box 23 (.tmp 0)) rfl ?_); refine wpList_boxing _ w1 rfl 23 (.tmp 0) rfl (geC n.ge) H rfl (by exact HR.out.sz) (by exact HR.out.al) ?_)
  go_ret
  exact ⟨ret_int HE.out, HR.out.ch⟩
theorem wrap_stripes : IntKind.i64.wrap (IntKind.i64.wrap (2 * n.ge.st) * (n.q : Int)) = ((2 * (n.S * n.q) : Nat) : Int) := by
  have b1 := h.s2
  have b2 := h.t2
  have e1 : n.ge.st = (n.S : Int) := rfl
  rw [e1, wrapI_in (x := 2 * (n.S : Int)) (by omega) (by omega)]
  have e2 : 2 * (n.S : Int) * (n.q : Int) = ((2 * (n.S * n.q) : Nat) : Int) := by rw [Int.mul_assoc]; omega
  rw [e2]
  exact wrapI_in (by omega) (by omega)
set_option maxHeartbeats 1600000 in
theorem end_any : Calls Try.prog 63 #[.agg (geC n.ge)] w (Ans (.int .i64 (n.tot : Int)) w) := by
  obtain ⟨w1, H, hR⟩ := geR w n.ge
  obtain ⟨x0, x1, x2, x3⟩ := hR.x
  have HR := Lib.hid hR
  have HX := Lib.hid hR.x
  have HK := Lib.hid h
  have HE := Lib.hid (show IntKind.i64.wrap ((n.fs : Int) + IntKind.i64.wrap (IntKind.i64.wrap (2 * n.ge.st) * (n.q : Int))) = (n.tot : Int) by
    have b1 := h.fs2
    have b2 := h.t2
    rw [wrap_stripes n h, wrapI_in (by omega) (by omega)]
    unfold Gn.tot
    omega)
  clear hR h
  go_enter Try.func63, Try.ntmps63
  go_wp2_with ((with_reducible refine wpList_isOp (.box 23 (.tmp 0)) rfl ?_); refine wpList_boxing _ w1 rfl 23 (.tmp 0) rfl (geC n.ge) H rfl (by exact HR.out.sz) (by exact HR.out.al) ?_)
  go_region_held3 (fun w' => w'.cell? ⟨H, 0, none⟩ = some (.int .i64 (n.ge).wal) ∧ w'.cell? ⟨H, 1, none⟩ = some (.int .i64 (n.ge).st) ∧ w'.cell? ⟨H, 2, none⟩ = some (.int .i64 (n.ge).k) ∧ w'.cell? ⟨H, 3, none⟩ = some (.int .i64 (n.ge).m)) (first | go_keep | exact ka | exact kb)
    (first
      | (go_at_call 82; refine (firstShare_any n HK.out _).mono ?_; rintro e w2 ⟨rfl, hc2⟩; have hx2 := HX.out.drew.gr hc2; have ka := hx2.all)
      | (go_at_call 83; refine (shares_any n HK.out _).mono ?_; rintro e w3 ⟨rfl, hc3⟩; have hx3 := hx2.gr hc3; have kb := hx3.all))
  go_wp2
  go_ret
  exact ⟨ret_int HE.out, (HR.out.ch.drew.trans hc2).trans hc3⟩
#print axioms end_any
end

/-! ### May -/
theorem mayG_eq (g : Ge) : mayG g = (inB g.wal 8 512 && (inB g.st 1 32 && (inB g.k 1 16 && inB g.m 1 8))) := rfl
set_option maxHeartbeats 1600000 in
theorem gmay_any (g : Ge) (w : World) : Calls Try.prog 35 #[.agg (geC g)] w (Ans (.bool (mayG g)) w) := by
  obtain ⟨w1, H, hR⟩ := geR w g
  obtain ⟨x0, x1, x2, x3⟩ := hR.x
  have HR := Lib.hid hR
  have HX := Lib.hid hR.x
  clear hR
  cases t1 : inB g.wal 8 512
  · have HE := Lib.hid (show mayG g = false by rw [mayG_eq, t1]; rfl)
    go_enter Try.func35, Try.ntmps35
    go_wp2_with (first | ((with_reducible refine wpList_isOp (.box 23 (.tmp 0)) rfl ?_); refine wpList_boxing _ w1 rfl 23 (.tmp 0) rfl (geC g) H rfl (by exact HR.out.sz) (by exact HR.out.al) ?_) | (go_at_call 62; refine (within_any _ _ _ _).mono ?_; rintro e w' ⟨rfl, rfl⟩))
    go_ret
    exact ⟨ret_bool HE.out.symm, HR.out.ch⟩
  cases t2 : inB g.st 1 32
  · have HE := Lib.hid (show mayG g = false by rw [mayG_eq, t1, t2]; rfl)
    go_enter Try.func35, Try.ntmps35
    go_wp2_with (first | ((with_reducible refine wpList_isOp (.box 23 (.tmp 0)) rfl ?_); refine wpList_boxing _ w1 rfl 23 (.tmp 0) rfl (geC g) H rfl (by exact HR.out.sz) (by exact HR.out.al) ?_) | (go_at_call 62; refine (within_any _ _ _ _).mono ?_; rintro e w' ⟨rfl, rfl⟩))
    go_ret
    exact ⟨ret_bool HE.out.symm, HR.out.ch⟩
  cases t3 : inB g.k 1 16
  · have HE := Lib.hid (show mayG g = false by rw [mayG_eq, t1, t2, t3]; rfl)
    go_enter Try.func35, Try.ntmps35
    go_wp2_with (first | ((with_reducible refine wpList_isOp (.box 23 (.tmp 0)) rfl ?_); refine wpList_boxing _ w1 rfl 23 (.tmp 0) rfl (geC g) H rfl (by exact HR.out.sz) (by exact HR.out.al) ?_) | (go_at_call 62; refine (within_any _ _ _ _).mono ?_; rintro e w' ⟨rfl, rfl⟩))
    go_ret
    exact ⟨ret_bool HE.out.symm, HR.out.ch⟩
  cases t4 : inB g.m 1 8
  · have HE := Lib.hid (show mayG g = false by rw [mayG_eq, t1, t2, t3, t4]; rfl)
    go_enter Try.func35, Try.ntmps35
    go_wp2_with (first | ((with_reducible refine wpList_isOp (.box 23 (.tmp 0)) rfl ?_); refine wpList_boxing _ w1 rfl 23 (.tmp 0) rfl (geC g) H rfl (by exact HR.out.sz) (by exact HR.out.al) ?_) | (go_at_call 62; refine (within_any _ _ _ _).mono ?_; rintro e w' ⟨rfl, rfl⟩))
    go_ret
    exact ⟨ret_bool HE.out.symm, HR.out.ch⟩
  have hm : mayG g = true := by rw [mayG_eq, t1, t2, t3, t4]; rfl
  have HE := Lib.hid hm
  obtain ⟨n, hn, rfl⟩ := may_nat hm
  have HT := Lib.hid (end_any n hn)
  have HD := Lib.hid (show decide ((n.tot : Int) ≤ 4096) = true by have := hn.tot2; exact decide_eq_true (by omega))
  have t5 := HD.out
  clear hm hn
  go_enter Try.func35, Try.ntmps35
  go_wp2_with (first | ((with_reducible refine wpList_isOp (.box 23 (.tmp 0)) rfl ?_); refine wpList_boxing _ w1 rfl 23 (.tmp 0) rfl (geC n.ge) H rfl (by exact HR.out.sz) (by exact HR.out.al) ?_) | (go_at_call 62; refine (within_any _ _ _ _).mono ?_; rintro e w' ⟨rfl, rfl⟩) | (go_at_call 63; refine (HT.out _).mono ?_; rintro e w2 ⟨rfl, hc2⟩))
  go_ret
  exact ⟨ret_bool HE.out.symm, HR.out.ch.trans hc2⟩
#print axioms gmay_any

/-! ### Sectors, Room, Groups -/
def totG (g : Ge) : Int := if mayG g then 4 + 2 * g.wal + 2 * (g.st * (g.k + g.m)) else 0
def roomG (g : Ge) : Int := if mayG g then g.st * g.k * 228 else 0
def grpG (g : Ge) : Int := if mayG g then 1 + g.wal + 2 * g.st else 0
theorem totG_no {g : Ge} (h : mayG g = false) : totG g = 0 := by unfold totG; rw [h]; rfl
theorem roomG_no {g : Ge} (h : mayG g = false) : roomG g = 0 := by unfold roomG; rw [h]; rfl
theorem grpG_no {g : Ge} (h : mayG g = false) : grpG g = 0 := by unfold grpG; rw [h]; rfl
theorem totG_ok {n : Gn} (h : n.Ok) : totG n.ge = (n.tot : Int) := by
  unfold totG; rw [ok_may h, if_pos rfl]
  unfold Gn.ge Gn.tot Gn.fs Gn.q
  simp only
  have e : ((n.S * (n.K + n.M) : Nat) : Int) = (n.S : Int) * ((n.K : Int) + (n.M : Int)) := by rw [Int.natCast_mul, Int.natCast_add]
  rw [← e]
  omega
theorem grpG_ok {n : Gn} (h : n.Ok) : grpG n.ge = (n.grp : Int) := by
  unfold grpG; rw [ok_may h, if_pos rfl]
  unfold Gn.ge Gn.grp Gn.fg
  simp only
  omega
theorem sk_le {n : Gn} (h : n.Ok) : n.S * n.K ≤ 512 := Nat.le_trans (Nat.mul_le_mul h.s2 h.k2) (by omega)
theorem room_wrap {n : Gn} (h : n.Ok) : wrap64 (wrap64 (n.ge.st * n.ge.k) * 228) = roomG n.ge := by
  have b := sk_le h
  have e1 : n.ge.st * n.ge.k = ((n.S * n.K : Nat) : Int) := by rw [Int.natCast_mul]; rfl
  unfold roomG
  rw [ok_may h, if_pos rfl, e1, IntWalk.wrap64_in ((n.S * n.K : Nat) : Int) ⟨by omega, by omega⟩]
  exact IntWalk.wrap64_in _ ⟨by omega, by omega⟩
set_option maxHeartbeats 800000 in
theorem room_any (g : Ge) (w : World) : Calls Try.prog 34 #[.agg (geC g)] w (Ans (.int .i64 (roomG g)) w) := by
  obtain ⟨w1, H, hR⟩ := geR w g
  obtain ⟨x0, x1, x2, x3⟩ := hR.x
  have HR := Lib.hid hR
  have HX := Lib.hid hR.x
  clear hR
  cases t1 : mayG g
  · have HE := Lib.hid (roomG_no t1)
    go_enter Try.func34, Try.ntmps34
    go_wp2_with (first | ((with_reducible refine wpList_isOp (.box 23 (.tmp 0)) rfl ?_); refine wpList_boxing _ w1 rfl 23 (.tmp 0) rfl (geC g) H rfl (by exact HR.out.sz) (by exact HR.out.al) ?_) | (go_at_call 35; refine (gmay_any g _).mono ?_; rintro e w2 ⟨rfl, hc2⟩))
    go_ret
    exact ⟨ret_int HE.out.symm, HR.out.ch.trans hc2⟩
  · obtain ⟨n, hn, rfl⟩ := may_nat t1
    have HE := Lib.hid (room_wrap hn)
    clear hn
    go_enter Try.func34, Try.ntmps34
    go_wp2_with (first | ((with_reducible refine wpList_isOp (.box 23 (.tmp 0)) rfl ?_); refine wpList_boxing _ w1 rfl 23 (.tmp 0) rfl (geC n.ge) H rfl (by exact HR.out.sz) (by exact HR.out.al) ?_) | (go_at_call 35; refine (gmay_any n.ge _).mono ?_; rintro e w2 ⟨rfl, hc2⟩; have hx2 := HX.out.gr hc2; obtain ⟨y0, y1, y2, y3⟩ := hx2))
    go_ret
    exact ⟨ret_int HE.out, HR.out.ch.trans hc2⟩
#print axioms room_any
end Go.Proofs.Ytjdknebifcdicaa
