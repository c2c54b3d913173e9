/-
  The document's GetNum and GetInt (quartermasterref05), walked. geo.within, shares, firstShare, firstStripeGroup, end, May, Sectors, Room, Groups, walked. What a sector opens to, told by its bytes alone; digits of words; an Out apart from other blocks. (Cut out of sup's texts.).
-/
import Derived.Test.YteleknojohnlbaaGreatMg25
import Derived.Test.YteleknojohnlbaaGreatMg2
import Derived.Test.YteleknojohnlbaaGreatMg20
import Derived.Test.YteleknojohnlbaaGreatMg22
namespace Go.Proofs.YteleknojohnlbaaGreat
open Go.RowKit Go.Shelf Cod
set_option linter.unusedVariables false
set_option maxRecDepth 100000

/-- What is handed back of bytes: a value, what is left, an error; the world has but drawn. -/
def GetRPost (n : Nat) (x : Value) (z : Nat → Nat) (K : Nat) (r1 r2 : Value) (w : World) (en : Ending) (w' : World) : Prop :=
  ∃ y d, en = .returned (.tuple #[r1, y, r2]) ∧ w' = w.drewN d ∧ RowV w y (n - K) (fun i => z (K + i)) ∧ NN y ∧ ∀ S, Off S x → Off S y
theorem rpost_all {n K : Nat} {x r1 r2 : Value} {z : Nat → Nat} {w : World} (hK : K = 0) (h : RowV w x n z) (hn : NN x) (d : Nat) : GetRPost n x z K r1 r2 w (.returned (.tuple #[r1, x, r2])) (w.drewN d) := by
  subst hK
  exact ⟨x, d, rfl, rfl, h.congr (fun i _ => by rw [Nat.zero_add]), hn, fun S h => h⟩
theorem rpost_all0 {n K : Nat} {x r1 r2 : Value} {z : Nat → Nat} {w : World} (hK : K = 0) (h : RowV w x n z) (hn : NN x) : GetRPost n x z K r1 r2 w (.returned (.tuple #[r1, x, r2])) w := rpost_all hK h hn 0
theorem rpost_end {n K b o : Nat} {r1 r2 : Value} {z : Nat → Nat} {w : World} (hK : K = n) (d : Nat) : GetRPost n (.slice (some ⟨b, o, none⟩) n n) z K r1 r2 w (.returned (.tuple #[r1, .slice (some ⟨b, o, none⟩) 0 0, r2])) (w.drewN d) := by
  subst hK
  exact ⟨_, d, rfl, rfl, by rw [Nat.sub_self]; exact none_row _ _ _, nn_some _ _ _ _, fun S _ => Off.zero⟩
theorem rpost_tail {n K b o C : Nat} {r1 r2 : Value} {z : Nat → Nat} {w : World} (h : RowV w (.slice (some ⟨b, o, none⟩) n C) n z) (hK : K ≤ n) (h0 : 0 < n) (d : Nat) : GetRPost n (.slice (some ⟨b, o, none⟩) n C) z K r1 r2 w (.returned (.tuple #[r1, .slice (some ⟨b, o + K, none⟩) (n - K) (C - K), r2])) (w.drewN d) :=
  ⟨_, d, rfl, rfl, row_tail h hK, nn_some _ _ _ _, fun S hS => hS.part h0⟩
theorem half_top {v : Nat} : v ≤ T63 ↔ ¬ 4611686018427387903 < v / 2 := by unfold T63; omega
set_option maxHeartbeats 1000000 in
set_option maxRecDepth 100000 in
theorem rgetnum_any (A : Option Addr) (n C : Nat) (z : Nat → Nat) (k e : Nat) (w : World) (h : RowV w (.slice A n C) n z) (hnn : NN (.slice A n C)) (hr : Rd n z k e) :
    Calls Tryz.prog 51 #[.slice A n C] w (GetRPost n (.slice A n C) z (resK T63 z k e) (.int .i64 (resV T63 z k e : Int)) (.int .i64 (resE T63 z k e : Int)) w) := by
  obtain ⟨_, _, e0, hl, _⟩ := id h
  injection e0 with e0 _ e1
  subst e0
  subst e1
  have hl1 := hl.1
  have HV := Lib.hid h
  have HD := Lib.hid hr
  have HNN := Lib.hid hnn
  rcases rd_e hr with rfl | he
  case inr =>
    have he2 : ¬ e = 0 := by omega
    have hk : k = 0 := by omega
    have t1 : ((e : Int) != 0) = true := by simpa using he2
    have e1 : resV T63 z k e = 0 ∧ resK T63 z k e = 0 ∧ resE T63 z k e = e := by unfold resV resK resE; rw [if_neg he2, if_neg he2, if_neg he2]; exact ⟨rfl, rfl, rfl⟩
    rw [e1.1, e1.2.1, e1.2.2]
    subst hk
    clear h hnn hr hl he he2 e1
    go_enter Tryz.func51, Tryz.ntmps51
    go_wp2_with fail
    refine (run_any A n C z _ _ _ HV.out HD.out).mono ?_
    rintro e' w' ⟨rfl, rfl⟩
    go_wp2
    refine bodyPost_ret (v := .tuple #[.int .i64 0, .slice A n C, .int .i64 (e : Int)]) (by simp [results, Tryz.results51, go_sem]) rfl ?_
    exact rpost_all0 rfl HV.out HNN.out
  obtain ⟨hk0, hkn, hk10, _⟩ := rd_ok_short hr
  have hvt := val_top hr
  have HT := Lib.hid hvt
  obtain ⟨b, o, rfl, _⟩ := h.at (by omega)
  have HF := Lib.hid (row_front h hkn)
  have hl2 := hl.2
  have e5 : ((n - k : Nat) : Int) = (n : Int) - (k : Int) := by omega
  have e6 : ((C - k : Nat) : Int) = (C : Int) - (k : Int) := by omega
  by_cases htop : val z k ≤ T63
  · obtain ⟨r1, r2, r3⟩ := res_ok (k := k) rfl htop
    rw [r1, r2, r3]
    have t2 : decide ((4611686018427387903 : Int) < ((val z k / 2 : Nat) : Int)) = false := by have := half_top.1 htop; simp; omega
    have hsum : 2 * (val z k / 2) + val z k % 2 = val z k := by omega
    have hb : val z k ≤ 9223372036854775807 := htop
    obtain ⟨V, hV⟩ : ∃ V, V = val z k := ⟨_, rfl⟩
    have HVV := Lib.hid hV
    rw [← hV] at hsum hb t2 ⊢
    obtain ⟨H, hH⟩ : ∃ H, H = V / 2 := ⟨_, rfl⟩
    obtain ⟨O, hO⟩ : ∃ O, O = V % 2 := ⟨_, rfl⟩
    have HHH := Lib.hid hH
    have HOO := Lib.hid hO
    rw [← hH, ← hO] at hsum
    rw [← hH] at t2
    have hHl : H ≤ 4611686018427387903 := by omega
    have hOl : O ≤ 1 := by omega
    have HS := Lib.hid (show 2 * (H : Int) + (O : Int) = (V : Int) by omega)
    clear h hnn hr hl hvt htop r1 r2 r3 hV hH hO hsum hb
    by_cases hC : C = k
    · subst hC
      obtain rfl : n = C := by omega
      go_enter Tryz.func51, Tryz.ntmps51
      go_wp2_with fail
      refine (run_any _ n n z n 0 _ HV.out HD.out).mono ?_
      rintro e' w' ⟨rfl, rfl⟩
      go_wp2_with fail
      refine (halves_any _ n n z _ HF.out (by omega) (by omega) HT.out).mono ?_
      rintro e' w' ⟨rfl, rfl⟩
      rw [← HVV.out, ← HHH.out, ← HOO.out]
      go_wp2
      go_quiet (fail)
      go_wp2
      refine bodyPost_ret (v := .tuple #[.int .i64 (2 * (H : Int) + (O : Int)), .slice (some ⟨b, o, none⟩) 0 0, .int .i64 0]) (by simp [results, Tryz.results51, go_sem]) rfl ?_
      rw [HS.out]
      exact rpost_end rfl _
    · have t3 : (C : Int) - (k : Int) ≠ 0 := by omega
      go_enter Tryz.func51, Tryz.ntmps51
      go_wp2_with fail
      refine (run_any _ n C z k 0 _ HV.out HD.out).mono ?_
      rintro e' w' ⟨rfl, rfl⟩
      go_wp2_with fail
      refine (halves_any _ k C z _ HF.out (by omega) (by omega) HT.out).mono ?_
      rintro e' w' ⟨rfl, rfl⟩
      rw [← HVV.out, ← HHH.out, ← HOO.out]
      go_wp2
      go_quiet (fail)
      go_wp2
      refine bodyPost_ret (v := .tuple #[.int .i64 (2 * (H : Int) + (O : Int)), .slice (some ⟨b, o + k, none⟩) (n - k) (C - k), .int .i64 0]) (by simp [results, Tryz.results51, go_sem]) rfl ?_
      rw [HS.out]
      exact rpost_tail HV.out hkn (by omega) _
  · obtain ⟨r1, r2, r3⟩ := res_bad (k := k) (top := T63) (z := z) (e := 0) (Or.inr ⟨rfl, by omega⟩)
    rw [r1, r2, r3]
    have t2 : decide ((4611686018427387903 : Int) < ((val z k / 2 : Nat) : Int)) = true := by
      have : ¬ ¬ 4611686018427387903 < val z k / 2 := fun q => htop (half_top.2 q)
      simp; omega
    clear h hnn hr hl hvt htop r1 r2 r3
    obtain ⟨H, hH⟩ : ∃ H, H = val z k / 2 := ⟨_, rfl⟩
    have HHH := Lib.hid hH
    rw [← hH] at t2
    clear hH
    go_enter Tryz.func51, Tryz.ntmps51
    go_wp2_with fail
    refine (run_any _ n C z k 0 _ HV.out HD.out).mono ?_
    rintro e' w' ⟨rfl, rfl⟩
    go_wp2_with fail
    refine (halves_any _ k C z _ HF.out (by omega) (by omega) HT.out).mono ?_
    rintro e' w' ⟨rfl, rfl⟩
    rw [← HHH.out]
    go_wp2
    refine bodyPost_ret (v := .tuple #[.int .i64 0, .slice (some ⟨b, o, none⟩) n C, .int .i64 7]) (by simp [results, Tryz.results51, go_sem]) rfl ?_
    exact rpost_all0 rfl HV.out HNN.out
#print axioms rgetnum_any
end Go.Proofs.YteleknojohnlbaaGreat
namespace Go.Proofs.YteleknojohnlbaaGreat
open Go.RowKit
set_option linter.unusedVariables false
set_option maxRecDepth 100000

set_option maxHeartbeats 400000 in
theorem within_any (n a b : Int) (w : World) : Calls Tryz.prog 69 #[.int .i64 n, .int .i64 a, .int .i64 b] w fun e w' => e = .returned (.bool (inB n a b)) ∧ w = w' := by
  by_cases h1 : a ≤ n
  · by_cases h2 : n ≤ b
    · have HE := Lib.hid (show inB n a b = true from inB_true.2 ⟨h1, h2⟩)
      have t1 : decide (a ≤ n) = true := decide_eq_true h1
      have t2 : decide (n ≤ b) = true := decide_eq_true h2
      clear h1 h2
      go_enter Tryz.func69, Tryz.ntmps69
      go_wp2
      go_ret
      exact ⟨ret_bool HE.out.symm, rfl⟩
    · have HE := Lib.hid (show inB n a b = false from decide_eq_false fun q => h2 q.2)
      have t1 : decide (a ≤ n) = true := decide_eq_true h1
      have t2 : decide (n ≤ b) = false := decide_eq_false h2
      clear h1 h2
      go_enter Tryz.func69, Tryz.ntmps69
      go_wp2
      go_ret
      exact ⟨ret_bool HE.out.symm, rfl⟩
  · have HE := Lib.hid (show inB n a b = false from decide_eq_false fun q => h1 q.1)
    have t1 : decide (a ≤ n) = false := decide_eq_false h1
    clear h1
    go_enter Tryz.func69, Tryz.ntmps69
    go_wp2
    go_ret
    exact ⟨ret_bool HE.out.symm, rfl⟩
#print axioms within_any
theorem GeX.all {w : World} {H : Nat} {g : Ge} (h : GeX w H g) : w.cell? ⟨H, 0, none⟩ = some (.int .i64 g.wal) ∧ w.cell? ⟨H, 1, none⟩ = some (.int .i64 g.st) ∧ w.cell? ⟨H, 2, none⟩ = some (.int .i64 g.k) ∧ w.cell? ⟨H, 3, none⟩ = some (.int .i64 g.m) := ⟨h.x0, h.x1, h.x2, h.x3⟩
theorem wrapI_in {x : Int} (h1 : -9223372036854775808 ≤ x) (h2 : x ≤ 9223372036854775807) : IntKind.i64.wrap x = x := by rw [IntKind.wrap_i64]; omega

section
variable (n : Gn) (h : n.Ok) (w : World)
include h
set_option maxHeartbeats 400000 in
theorem shares_any : Calls Tryz.prog 112 #[.agg (geC n.ge)] w (Ans (.int .i64 (n.q : Int)) w) := by
  obtain ⟨w1, H, hR⟩ := geR w n.ge
  obtain ⟨k, hk⟩ : ∃ k, k = n.K := ⟨_, rfl⟩
  obtain ⟨m, hm⟩ : ∃ m, m = n.M := ⟨_, rfl⟩
  have x2 : w1.cell? ⟨H, 2, none⟩ = some (.int .i64 (k : Int)) := by rw [hk]; exact hR.x.x2
  have x3 : w1.cell? ⟨H, 3, none⟩ = some (.int .i64 (m : Int)) := by rw [hm]; exact hR.x.x3
  have b1 : k ≤ 16 := by rw [hk]; exact h.k2
  have b2 : m ≤ 8 := by rw [hm]; exact h.m2
  have HE := Lib.hid (show (k : Int) + (m : Int) = (n.q : Int) by rw [hk, hm]; unfold Gn.q; omega)
  have HR := Lib.hid hR
  clear hR hk hm h
  go_enter Tryz.func112, Tryz.ntmps112
  go_wp2_with ((with_reducible refine wpList_isOp (.box 23 (.tmp 0)) rfl ?_); refine wpList_boxing _ w1 rfl 23 (.tmp 0) rfl (geC n.ge) H rfl (by exact HR.out.sz) (by exact HR.out.al) ?_)
  go_ret
  exact ⟨ret_int HE.out, HR.out.ch⟩
set_option maxHeartbeats 400000 in
theorem firstShare_any : Calls Tryz.prog 111 #[.agg (geC n.ge)] w (Ans (.int .i64 (n.fs : Int)) w) := by
  obtain ⟨w1, H, hR⟩ := geR w n.ge
  obtain ⟨k, hk⟩ : ∃ k, k = n.W := ⟨_, rfl⟩
  have x0 : w1.cell? ⟨H, 0, none⟩ = some (.int .i64 (k : Int)) := by rw [hk]; exact hR.x.x0
  have b1 : k ≤ 512 := by rw [hk]; exact h.w2
  have HE := Lib.hid (show 4 + 2 * (k : Int) = (n.fs : Int) by rw [hk]; unfold Gn.fs; omega)
  have HR := Lib.hid hR
  clear hR hk h
  go_enter Tryz.func111, Tryz.ntmps111
  go_wp2_with ((with_reducible refine wpList_isOp (.box 23 (.tmp 0)) rfl ?_); refine wpList_boxing _ w1 rfl 23 (.tmp 0) rfl (geC n.ge) H rfl (by exact HR.out.sz) (by exact HR.out.al) ?_)
  go_ret
  exact ⟨ret_int HE.out, HR.out.ch⟩
theorem wrap_stripes : IntKind.i64.wrap (IntKind.i64.wrap (2 * n.ge.st) * (n.q : Int)) = ((2 * (n.S * n.q) : Nat) : Int) := by
  have b1 := h.s2
  have b2 := h.t2
  have e1 : n.ge.st = (n.S : Int) := rfl
  rw [e1, wrapI_in (x := 2 * (n.S : Int)) (by omega) (by omega)]
  have e2 : 2 * (n.S : Int) * (n.q : Int) = ((2 * (n.S * n.q) : Nat) : Int) := by rw [Int.mul_assoc]; omega
  rw [e2]
  exact wrapI_in (by omega) (by omega)
set_option maxHeartbeats 1600000 in
theorem end_any : Calls Tryz.prog 70 #[.agg (geC n.ge)] w (Ans (.int .i64 (n.tot : Int)) w) := by
  obtain ⟨w1, H, hR⟩ := geR w n.ge
  obtain ⟨x0, x1, x2, x3⟩ := hR.x
  have HR := Lib.hid hR
  have HX := Lib.hid hR.x
  have HK := Lib.hid h
  have HE := Lib.hid (show IntKind.i64.wrap ((n.fs : Int) + IntKind.i64.wrap (IntKind.i64.wrap (2 * n.ge.st) * (n.q : Int))) = (n.tot : Int) by
    have b1 := h.fs2
    have b2 := h.t2
    rw [wrap_stripes n h, wrapI_in (by omega) (by omega)]
    unfold Gn.tot
    omega)
  clear hR h
  go_enter Tryz.func70, Tryz.ntmps70
  go_wp2_with ((with_reducible refine wpList_isOp (.box 23 (.tmp 0)) rfl ?_); refine wpList_boxing _ w1 rfl 23 (.tmp 0) rfl (geC n.ge) H rfl (by exact HR.out.sz) (by exact HR.out.al) ?_)
  go_region_held3 (fun w' => w'.cell? ⟨H, 0, none⟩ = some (.int .i64 (n.ge).wal) ∧ w'.cell? ⟨H, 1, none⟩ = some (.int .i64 (n.ge).st) ∧ w'.cell? ⟨H, 2, none⟩ = some (.int .i64 (n.ge).k) ∧ w'.cell? ⟨H, 3, none⟩ = some (.int .i64 (n.ge).m)) (first | go_keep | exact ka | exact kb)
    (first
      | (go_at_call 111; refine (firstShare_any n HK.out _).mono ?_; rintro e w2 ⟨rfl, hc2⟩; have hx2 := HX.out.drew.gr hc2; have ka := hx2.all)
      | (go_at_call 112; refine (shares_any n HK.out _).mono ?_; rintro e w3 ⟨rfl, hc3⟩; have hx3 := hx2.gr hc3; have kb := hx3.all))
  go_wp2
  go_ret
  exact ⟨ret_int HE.out, (HR.out.ch.drew.trans hc2).trans hc3⟩
#print axioms end_any
end

/-! ### May -/
theorem mayG_eq (g : Ge) : mayG g = (inB g.wal 8 512 && (inB g.st 1 32 && (inB g.k 1 16 && inB g.m 1 8))) := rfl
set_option maxHeartbeats 1600000 in
theorem gmay_any (g : Ge) (w : World) : Calls Tryz.prog 39 #[.agg (geC g)] w (Ans (.bool (mayG g)) w) := by
  obtain ⟨w1, H, hR⟩ := geR w g
  obtain ⟨x0, x1, x2, x3⟩ := hR.x
  have HR := Lib.hid hR
  have HX := Lib.hid hR.x
  clear hR
  cases t1 : inB g.wal 8 512
  · have HE := Lib.hid (show mayG g = false by rw [mayG_eq, t1]; rfl)
    go_enter Tryz.func39, Tryz.ntmps39
    go_wp2_with (first | ((with_reducible refine wpList_isOp (.box 23 (.tmp 0)) rfl ?_); refine wpList_boxing _ w1 rfl 23 (.tmp 0) rfl (geC g) H rfl (by exact HR.out.sz) (by exact HR.out.al) ?_) | (go_at_call 69; refine (within_any _ _ _ _).mono ?_; rintro e w' ⟨rfl, rfl⟩))
    go_ret
    exact ⟨ret_bool HE.out.symm, HR.out.ch⟩
  cases t2 : inB g.st 1 32
  · have HE := Lib.hid (show mayG g = false by rw [mayG_eq, t1, t2]; rfl)
    go_enter Tryz.func39, Tryz.ntmps39
    go_wp2_with (first | ((with_reducible refine wpList_isOp (.box 23 (.tmp 0)) rfl ?_); refine wpList_boxing _ w1 rfl 23 (.tmp 0) rfl (geC g) H rfl (by exact HR.out.sz) (by exact HR.out.al) ?_) | (go_at_call 69; refine (within_any _ _ _ _).mono ?_; rintro e w' ⟨rfl, rfl⟩))
    go_ret
    exact ⟨ret_bool HE.out.symm, HR.out.ch⟩
  cases t3 : inB g.k 1 16
  · have HE := Lib.hid (show mayG g = false by rw [mayG_eq, t1, t2, t3]; rfl)
    go_enter Tryz.func39, Tryz.ntmps39
    go_wp2_with (first | ((with_reducible refine wpList_isOp (.box 23 (.tmp 0)) rfl ?_); refine wpList_boxing _ w1 rfl 23 (.tmp 0) rfl (geC g) H rfl (by exact HR.out.sz) (by exact HR.out.al) ?_) | (go_at_call 69; refine (within_any _ _ _ _).mono ?_; rintro e w' ⟨rfl, rfl⟩))
    go_ret
    exact ⟨ret_bool HE.out.symm, HR.out.ch⟩
  cases t4 : inB g.m 1 8
  · have HE := Lib.hid (show mayG g = false by rw [mayG_eq, t1, t2, t3, t4]; rfl)
    go_enter Tryz.func39, Tryz.ntmps39
    go_wp2_with (first | ((with_reducible refine wpList_isOp (.box 23 (.tmp 0)) rfl ?_); refine wpList_boxing _ w1 rfl 23 (.tmp 0) rfl (geC g) H rfl (by exact HR.out.sz) (by exact HR.out.al) ?_) | (go_at_call 69; refine (within_any _ _ _ _).mono ?_; rintro e w' ⟨rfl, rfl⟩))
    go_ret
    exact ⟨ret_bool HE.out.symm, HR.out.ch⟩
  have hm : mayG g = true := by rw [mayG_eq, t1, t2, t3, t4]; rfl
  have HE := Lib.hid hm
  obtain ⟨n, hn, rfl⟩ := may_nat hm
  have HT := Lib.hid (end_any n hn)
  have HD := Lib.hid (show decide ((n.tot : Int) ≤ 4096) = true by have := hn.tot2; exact decide_eq_true (by omega))
  have t5 := HD.out
  clear hm hn
  go_enter Tryz.func39, Tryz.ntmps39
  go_wp2_with (first | ((with_reducible refine wpList_isOp (.box 23 (.tmp 0)) rfl ?_); refine wpList_boxing _ w1 rfl 23 (.tmp 0) rfl (geC n.ge) H rfl (by exact HR.out.sz) (by exact HR.out.al) ?_) | (go_at_call 69; refine (within_any _ _ _ _).mono ?_; rintro e w' ⟨rfl, rfl⟩) | (go_at_call 70; refine (HT.out _).mono ?_; rintro e w2 ⟨rfl, hc2⟩))
  go_ret
  exact ⟨ret_bool HE.out.symm, HR.out.ch.trans hc2⟩
#print axioms gmay_any

/-! ### Sectors, Room, Groups -/
def totG (g : Ge) : Int := if mayG g then 4 + 2 * g.wal + 2 * (g.st * (g.k + g.m)) else 0
def roomG (g : Ge) : Int := if mayG g then g.st * g.k * 228 else 0
def grpG (g : Ge) : Int := if mayG g then 1 + g.wal + 2 * g.st else 0
theorem totG_no {g : Ge} (h : mayG g = false) : totG g = 0 := by unfold totG; rw [h]; rfl
theorem roomG_no {g : Ge} (h : mayG g = false) : roomG g = 0 := by unfold roomG; rw [h]; rfl
theorem grpG_no {g : Ge} (h : mayG g = false) : grpG g = 0 := by unfold grpG; rw [h]; rfl
theorem totG_ok {n : Gn} (h : n.Ok) : totG n.ge = (n.tot : Int) := by
  unfold totG; rw [ok_may h, if_pos rfl]
  unfold Gn.ge Gn.tot Gn.fs Gn.q
  simp only
  have e : ((n.S * (n.K + n.M) : Nat) : Int) = (n.S : Int) * ((n.K : Int) + (n.M : Int)) := by rw [Int.natCast_mul, Int.natCast_add]
  rw [← e]
  omega
theorem grpG_ok {n : Gn} (h : n.Ok) : grpG n.ge = (n.grp : Int) := by
  unfold grpG; rw [ok_may h, if_pos rfl]
  unfold Gn.ge Gn.grp Gn.fg
  simp only
  omega
theorem sk_le {n : Gn} (h : n.Ok) : n.S * n.K ≤ 512 := Nat.le_trans (Nat.mul_le_mul h.s2 h.k2) (by omega)
theorem room_wrap {n : Gn} (h : n.Ok) : wrap64 (wrap64 (n.ge.st * n.ge.k) * 228) = roomG n.ge := by
  have b := sk_le h
  have e1 : n.ge.st * n.ge.k = ((n.S * n.K : Nat) : Int) := by rw [Int.natCast_mul]; rfl
  unfold roomG
  rw [ok_may h, if_pos rfl, e1, IntWalk.wrap64_in ((n.S * n.K : Nat) : Int) ⟨by omega, by omega⟩]
  exact IntWalk.wrap64_in _ ⟨by omega, by omega⟩
end Go.Proofs.YteleknojohnlbaaGreat
namespace Go.Proofs.YteleknojohnlbaaGreat
open Go.RowKit
set_option linter.unusedVariables false
set_option maxRecDepth 100000

def wordS (n : Int) : Bool := inB n 0 4294967295
theorem digs_len5 {n : Nat} (h : n ≤ 4294967295) : (Cod.digs n).length ≤ 5 := by
  rcases Cod.digs_len 5 n (by omega) with h | h
  · exact h
  · omega
theorem numZ_at {z y : Nat → Nat} (h : ∀ c, c < 256 → z c = y c) {a : Nat} (ha : a + 3 < 256) : numZ z a = numZ y a := by
  unfold numZ
  rw [h a (by omega), h (a + 1) (by omega), h (a + 2) (by omega), h (a + 3) ha]
theorem readB_at {z y : Nat → Nat} (h : ∀ c, c < 256 → z c = y c) (V U : Value) : Same (readB V z) (readB U y) := by
  have hl : blkLong z = blkLong y := by unfold blkLong; rw [h 20 (by omega), h 21 (by omega)]
  have e : (readB V z).len = (readB U y).len := by
    show (if blkLong z ≤ 228 then blkLong z else 228) = (if blkLong y ≤ 228 then blkLong y else 228)
    rw [hl]
  refine ⟨?_, ?_, ?_, ?_, ?_, e, fun c hc => ?_⟩
  · show ((z 2 : Nat) : Int) = (y 2 : Nat); rw [h 2 (by omega)]
  · show ((numZ z 4 : Nat) : Int) = (numZ y 4 : Nat); rw [numZ_at h (by omega)]
  · show ((numZ z 8 : Nat) : Int) = (numZ y 8 : Nat); rw [numZ_at h (by omega)]
  · show ((numZ z 12 : Nat) : Int) = (numZ y 12 : Nat); rw [numZ_at h (by omega)]
  · show ((numZ z 16 : Nat) : Int) = (numZ y 16 : Nat); rw [numZ_at h (by omega)]
  · have : (readB U y).len ≤ 228 := by show (if blkLong y ≤ 228 then blkLong y else 228) ≤ 228; split <;> omega
    exact h (24 + c) (by omega)
theorem opensB_eq {z y : Nat → Nat} (h : ∀ c, c < 256 → z c = y c) : opensB 256 z = opensB 256 y := by
  have s := readB_at h undef undef
  have e : eqB 256 256 (sectZ (readB undef z)) z = eqB 256 256 (sectZ (readB undef y)) y := by
    unfold eqB
    refine decide_eq_decide.2 ⟨fun q => ⟨rfl, fun c hc => ?_⟩, fun q => ⟨rfl, fun c hc => ?_⟩⟩
    · rw [← h c hc, ← s.sect c]; exact q.2 c hc
    · rw [h c hc, s.sect c]; exact q.2 c hc
  rw [opensB_at, opensB_at, s.may, e]
theorem Same.trans {a b c : Bk} (h : Same a b) (k : Same b c) : Same a c := ⟨h.kind.trans k.kind, h.vol.trans k.vol, h.addr.trans k.addr, h.epoch.trans k.epoch, h.seq.trans k.seq, h.len.trans k.len, fun j hj => (h.z j (by rw [k.len]; exact hj)).trans (k.z j hj)⟩
theorem flat_left {P R : List Nat} {i : Nat} (h : i < P.length) : Cod.litZ (P ++ R) i = Cod.litZ P i := by rw [← Cod.litZ_app]; unfold jnZ; rw [if_pos h]
theorem flat_right (P R : List Nat) (i : Nat) : Cod.litZ (P ++ R) (P.length + i) = Cod.litZ R i := by rw [← Cod.litZ_app]; unfold jnZ; rw [if_neg (by omega), Nat.add_sub_cancel_left]
theorem foot_apart {base B j t : Nat} {w : World} {v : Value} {L : List Nat} {c : Array Value} (h : OutIs base w B v L) (hj : w.heap[j]? = some (.cells c t (0, 0))) (h1 : t ≠ 132) (h2 : t ≠ /-t-/5) : ¬ FootO B v j := fun f => by
  rcases f with rfl | f
  · exact cells_ne hj (show w.heap[j]? = _ from h.box) h1 rfl
  · obtain ⟨_, c2, hc2⟩ := own_at h.own f
    exact cells_ne hj hc2 h2 rfl
theorem open_len {n : Nat} {z : Nat → Nat} {V : Value} : (openB n z V).len ≤ 228 := by
  unfold openB
  split
  · exact readL_le z
  · exact Nat.zero_le _
#print axioms opensB_eq
end Go.Proofs.YteleknojohnlbaaGreat
