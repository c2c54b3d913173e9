/-
  The document's GetNum and GetInt (quartermasterref05), walked.
-/
import Derived.Test.YtfnmdcfnojgofaaCodS
namespace Go.Proofs.Ytfnmdcfnojgofaa
open Go.RowKit Go.Shelf Cod
set_option linter.unusedVariables false

/-- What is handed back of bytes: a value, what is left, an error; the world has but drawn. -/
def RPost (n : Nat) (x : Value) (z : Nat → Nat) (K : Nat) (r1 r2 : Value) (w : World) (en : Ending) (w' : World) : Prop :=
  ∃ y d, en = .returned (.tuple #[r1, y, r2]) ∧ w' = w.drewN d ∧ RowV w y (n - K) (fun i => z (K + i)) ∧ NN y ∧ ∀ S, Off S x → Off S y
theorem rpost_all {n K : Nat} {x r1 r2 : Value} {z : Nat → Nat} {w : World} (hK : K = 0) (h : RowV w x n z) (hn : NN x) (d : Nat) : RPost n x z K r1 r2 w (.returned (.tuple #[r1, x, r2])) (w.drewN d) := by
  subst hK
  exact ⟨x, d, rfl, rfl, h.congr (fun i _ => by rw [Nat.zero_add]), hn, fun S h => h⟩
theorem rpost_all0 {n K : Nat} {x r1 r2 : Value} {z : Nat → Nat} {w : World} (hK : K = 0) (h : RowV w x n z) (hn : NN x) : RPost n x z K r1 r2 w (.returned (.tuple #[r1, x, r2])) w := rpost_all hK h hn 0
theorem rpost_end {n K b o : Nat} {r1 r2 : Value} {z : Nat → Nat} {w : World} (hK : K = n) (d : Nat) : RPost n (.slice (some ⟨b, o, none⟩) n n) z K r1 r2 w (.returned (.tuple #[r1, .slice (some ⟨b, o, none⟩) 0 0, r2])) (w.drewN d) := by
  subst hK
  exact ⟨_, d, rfl, rfl, by rw [Nat.sub_self]; exact none_row _ _ _, nn_some _ _ _ _, fun S _ => Off.zero⟩
theorem rpost_tail {n K b o C : Nat} {r1 r2 : Value} {z : Nat → Nat} {w : World} (h : RowV w (.slice (some ⟨b, o, none⟩) n C) n z) (hK : K ≤ n) (h0 : 0 < n) (d : Nat) : RPost n (.slice (some ⟨b, o, none⟩) n C) z K r1 r2 w (.returned (.tuple #[r1, .slice (some ⟨b, o + K, none⟩) (n - K) (C - K), r2])) (w.drewN d) :=
  ⟨_, d, rfl, rfl, row_tail h hK, nn_some _ _ _ _, fun S hS => hS.part h0⟩
theorem half_top {v : Nat} : v ≤ T63 ↔ ¬ 4611686018427387903 < v / 2 := by unfold T63; omega
set_option maxHeartbeats 1000000 in
set_option maxRecDepth 100000 in
theorem rgetnum_any (A : Option Addr) (n C : Nat) (z : Nat → Nat) (k e : Nat) (w : World) (h : RowV w (.slice A n C) n z) (hnn : NN (.slice A n C)) (hr : Rd n z k e) :
    Calls Try.prog 18 #[.slice A n C] w (RPost n (.slice A n C) z (resK T63 z k e) (.int .i64 (resV T63 z k e : Int)) (.int .i64 (resE T63 z k e : Int)) w) := by
  obtain ⟨_, _, e0, hl, _⟩ := id h
  injection e0 with e0 _ e1
  subst e0
  subst e1
  have hl1 := hl.1
  have HV := Lib.hid h
  have HD := Lib.hid hr
  have HNN := Lib.hid hnn
  rcases rd_e hr with rfl | he
  case inr =>
    have he2 : ¬ e = 0 := by omega
    have hk : k = 0 := by omega
    have t1 : ((e : Int) != 0) = true := by simpa using he2
    have e1 : resV T63 z k e = 0 ∧ resK T63 z k e = 0 ∧ resE T63 z k e = e := by unfold resV resK resE; rw [if_neg he2, if_neg he2, if_neg he2]; exact ⟨rfl, rfl, rfl⟩
    rw [e1.1, e1.2.1, e1.2.2]
    subst hk
    clear h hnn hr hl he he2 e1
    go_enter Try.func18, Try.ntmps18
    go_wp2_with fail
    refine (run_any A n C z _ _ _ HV.out HD.out).mono ?_
    rintro e' w' ⟨rfl, rfl⟩
    go_wp2
    refine bodyPost_ret (v := .tuple #[.int .i64 0, .slice A n C, .int .i64 (e : Int)]) (by simp [results, Try.results18, go_sem]) rfl ?_
    exact rpost_all0 rfl HV.out HNN.out
  obtain ⟨hk0, hkn, hk10, _⟩ := rd_ok_short hr
  have hvt := val_top hr
  have HT := Lib.hid hvt
  obtain ⟨b, o, rfl, _⟩ := h.at (by omega)
  have HF := Lib.hid (row_front h hkn)
  have hl2 := hl.2
  have e5 : ((n - k : Nat) : Int) = (n : Int) - (k : Int) := by omega
  have e6 : ((C - k : Nat) : Int) = (C : Int) - (k : Int) := by omega
  by_cases htop : val z k ≤ T63
  · obtain ⟨r1, r2, r3⟩ := res_ok (k := k) rfl htop
    rw [r1, r2, r3]
    have t2 : decide ((4611686018427387903 : Int) < ((val z k / 2 : Nat) : Int)) = false := by have := half_top.1 htop; simp; omega
    have hsum : 2 * (val z k / 2) + val z k % 2 = val z k := by omega
    have hb : val z k ≤ 9223372036854775807 := htop
    obtain ⟨V, hV⟩ : ∃ V, V = val z k := ⟨_, rfl⟩
    have HVV := Lib.hid hV
    rw [← hV] at hsum hb t2 ⊢
    obtain ⟨H, hH⟩ : ∃ H, H = V / 2 := ⟨_, rfl⟩
    obtain ⟨O, hO⟩ : ∃ O, O = V % 2 := ⟨_, rfl⟩
    have HHH := Lib.hid hH
    have HOO := Lib.hid hO
    rw [← hH, ← hO] at hsum
    rw [← hH] at t2
    have hHl : H ≤ 4611686018427387903 := by omega
    have hOl : O ≤ 1 := by omega
    have HS := Lib.hid (show 2 * (H : Int) + (O : Int) = (V : Int) by omega)
    clear h hnn hr hl hvt htop r1 r2 r3 hV hH hO hsum hb
    by_cases hC : C = k
    · subst hC
      obtain rfl : n = C := by omega
      go_enter Try.func18, Try.ntmps18
      go_wp2_with fail
      refine (run_any _ n n z n 0 _ HV.out HD.out).mono ?_
      rintro e' w' ⟨rfl, rfl⟩
      go_wp2_with fail
      refine (halves_any _ n n z _ HF.out (by omega) (by omega) HT.out).mono ?_
      rintro e' w' ⟨rfl, rfl⟩
      rw [← HVV.out, ← HHH.out, ← HOO.out]
      go_wp2
      go_quiet (fail)
      go_wp2
      refine bodyPost_ret (v := .tuple #[.int .i64 (2 * (H : Int) + (O : Int)), .slice (some ⟨b, o, none⟩) 0 0, .int .i64 0]) (by simp [results, Try.results18, go_sem]) rfl ?_
      rw [HS.out]
      exact rpost_end rfl _
    · have t3 : (C : Int) - (k : Int) ≠ 0 := by omega
      go_enter Try.func18, Try.ntmps18
      go_wp2_with fail
      refine (run_any _ n C z k 0 _ HV.out HD.out).mono ?_
      rintro e' w' ⟨rfl, rfl⟩
      go_wp2_with fail
      refine (halves_any _ k C z _ HF.out (by omega) (by omega) HT.out).mono ?_
      rintro e' w' ⟨rfl, rfl⟩
      rw [← HVV.out, ← HHH.out, ← HOO.out]
      go_wp2
      go_quiet (fail)
      go_wp2
      refine bodyPost_ret (v := .tuple #[.int .i64 (2 * (H : Int) + (O : Int)), .slice (some ⟨b, o + k, none⟩) (n - k) (C - k), .int .i64 0]) (by simp [results, Try.results18, go_sem]) rfl ?_
      rw [HS.out]
      exact rpost_tail HV.out hkn (by omega) _
  · obtain ⟨r1, r2, r3⟩ := res_bad (k := k) (top := T63) (z := z) (e := 0) (Or.inr ⟨rfl, by omega⟩)
    rw [r1, r2, r3]
    have t2 : decide ((4611686018427387903 : Int) < ((val z k / 2 : Nat) : Int)) = true := by
      have : ¬ ¬ 4611686018427387903 < val z k / 2 := fun q => htop (half_top.2 q)
      simp; omega
    clear h hnn hr hl hvt htop r1 r2 r3
    obtain ⟨H, hH⟩ : ∃ H, H = val z k / 2 := ⟨_, rfl⟩
    have HHH := Lib.hid hH
    rw [← hH] at t2
    clear hH
    go_enter Try.func18, Try.ntmps18
    go_wp2_with fail
    refine (run_any _ n C z k 0 _ HV.out HD.out).mono ?_
    rintro e' w' ⟨rfl, rfl⟩
    go_wp2_with fail
    refine (halves_any _ k C z _ HF.out (by omega) (by omega) HT.out).mono ?_
    rintro e' w' ⟨rfl, rfl⟩
    rw [← HHH.out]
    go_wp2
    refine bodyPost_ret (v := .tuple #[.int .i64 0, .slice (some ⟨b, o, none⟩) n C, .int .i64 7]) (by simp [results, Try.results18, go_sem]) rfl ?_
    exact rpost_all0 rfl HV.out HNN.out
#print axioms rgetnum_any
set_option maxHeartbeats 1000000 in
set_option maxRecDepth 100000 in
theorem rgetint_any (A : Option Addr) (n C : Nat) (z : Nat → Nat) (k e : Nat) (w : World) (h : RowV w (.slice A n C) n z) (hnn : NN (.slice A n C)) (hr : Rd n z k e) :
    Calls Try.prog 20 #[.slice A n C] w (RPost n (.slice A n C) z (resK T64 z k e) (.int .i64 (backZ (resV T64 z k e))) (.int .i64 (resE T64 z k e : Int)) w) := by
  obtain ⟨_, _, e0, hl, _⟩ := id h
  injection e0 with e0 _ e1
  subst e0
  subst e1
  have hl1 := hl.1
  have HV := Lib.hid h
  have HD := Lib.hid hr
  have HNN := Lib.hid hnn
  rcases rd_e hr with rfl | he
  case inr =>
    have he2 : ¬ e = 0 := by omega
    have hk : k = 0 := by omega
    have t1 : ((e : Int) != 0) = true := by simpa using he2
    have e1 : resV T64 z k e = 0 ∧ resK T64 z k e = 0 ∧ resE T64 z k e = e := by unfold resV resK resE; rw [if_neg he2, if_neg he2, if_neg he2]; exact ⟨rfl, rfl, rfl⟩
    rw [e1.1, e1.2.1, e1.2.2, show backZ 0 = 0 from rfl]
    subst hk
    clear h hnn hr hl he he2 e1
    go_enter Try.func20, Try.ntmps20
    go_wp2_with fail
    refine (run_any A n C z _ _ _ HV.out HD.out).mono ?_
    rintro e' w' ⟨rfl, rfl⟩
    go_wp2
    refine bodyPost_ret (v := .tuple #[.int .i64 0, .slice A n C, .int .i64 (e : Int)]) (by simp [results, Try.results20, go_sem]) rfl ?_
    exact rpost_all0 rfl HV.out HNN.out
  obtain ⟨hk0, hkn, hk10, _⟩ := rd_ok_short hr
  have hvt := val_top hr
  have HT := Lib.hid hvt
  obtain ⟨b, o, rfl, _⟩ := h.at (by omega)
  have HF := Lib.hid (row_front h hkn)
  have hl2 := hl.2
  have e5 : ((n - k : Nat) : Int) = (n : Int) - (k : Int) := by omega
  have e6 : ((C - k : Nat) : Int) = (C : Int) - (k : Int) := by omega
  have htop : val z k ≤ T64 := by unfold T64; omega
  obtain ⟨r1, r2, r3⟩ := res_ok (k := k) rfl htop
  rw [r1, r2, r3]
  have hb : val z k / 2 ≤ 9223372036854775807 := by omega
  obtain ⟨V, hV⟩ : ∃ V, V = val z k := ⟨_, rfl⟩
  have HVV := Lib.hid hV
  rw [← hV] at hb ⊢
  obtain ⟨H, hH⟩ : ∃ H, H = V / 2 := ⟨_, rfl⟩
  obtain ⟨O, hO⟩ : ∃ O, O = V % 2 := ⟨_, rfl⟩
  have HHH := Lib.hid hH
  have HOO := Lib.hid hO
  have hHl : H ≤ 9223372036854775807 := by omega
  have hOl : O ≤ 1 := by omega
  by_cases hq : O = 1
  · have t2 : ((O : Int) == 1) = true := by simp; omega
    have HS := Lib.hid (show (-(H : Int) - 1) = backZ V by unfold backZ; rw [if_pos (by omega)]; omega)
    clear h hnn hr hl hvt htop r1 r2 r3 hV hH hO hb hq
    by_cases hC : C = k
    · subst hC
      obtain rfl : n = C := by omega
      go_enter Try.func20, Try.ntmps20
      go_wp2_with fail
      refine (run_any _ n n z n 0 _ HV.out HD.out).mono ?_
      rintro e' w' ⟨rfl, rfl⟩
      go_wp2_with fail
      refine (halves_any _ n n z _ HF.out (by omega) (by omega) HT.out).mono ?_
      rintro e' w' ⟨rfl, rfl⟩
      rw [← HVV.out, ← HHH.out, ← HOO.out]
      go_wp2
      go_quiet (fail)
      go_wp2
      refine bodyPost_ret (v := .tuple #[.int .i64 (-(H : Int) - 1), .slice (some ⟨b, o, none⟩) 0 0, .int .i64 0]) (by simp [results, Try.results20, go_sem]) rfl ?_
      rw [HS.out]
      exact rpost_end rfl _
    · have t3 : (C : Int) - (k : Int) ≠ 0 := by omega
      go_enter Try.func20, Try.ntmps20
      go_wp2_with fail
      refine (run_any _ n C z k 0 _ HV.out HD.out).mono ?_
      rintro e' w' ⟨rfl, rfl⟩
      go_wp2_with fail
      refine (halves_any _ k C z _ HF.out (by omega) (by omega) HT.out).mono ?_
      rintro e' w' ⟨rfl, rfl⟩
      rw [← HVV.out, ← HHH.out, ← HOO.out]
      go_wp2
      go_quiet (fail)
      go_wp2
      refine bodyPost_ret (v := .tuple #[.int .i64 (-(H : Int) - 1), .slice (some ⟨b, o + k, none⟩) (n - k) (C - k), .int .i64 0]) (by simp [results, Try.results20, go_sem]) rfl ?_
      rw [HS.out]
      exact rpost_tail HV.out hkn (by omega) _
  · have t2 : ((O : Int) == 1) = false := by simp; omega
    have HS := Lib.hid (show (H : Int) = backZ V by unfold backZ; rw [if_neg (by omega)]; omega)
    clear h hnn hr hl hvt htop r1 r2 r3 hV hH hO hb hq
    by_cases hC : C = k
    · subst hC
      obtain rfl : n = C := by omega
      go_enter Try.func20, Try.ntmps20
      go_wp2_with fail
      refine (run_any _ n n z n 0 _ HV.out HD.out).mono ?_
      rintro e' w' ⟨rfl, rfl⟩
      go_wp2_with fail
      refine (halves_any _ n n z _ HF.out (by omega) (by omega) HT.out).mono ?_
      rintro e' w' ⟨rfl, rfl⟩
      rw [← HVV.out, ← HHH.out, ← HOO.out]
      go_wp2
      go_quiet (fail)
      go_wp2
      refine bodyPost_ret (v := .tuple #[.int .i64 (H : Int), .slice (some ⟨b, o, none⟩) 0 0, .int .i64 0]) (by simp [results, Try.results20, go_sem]) rfl ?_
      rw [HS.out]
      exact rpost_end rfl _
    · have t3 : (C : Int) - (k : Int) ≠ 0 := by omega
      go_enter Try.func20, Try.ntmps20
      go_wp2_with fail
      refine (run_any _ n C z k 0 _ HV.out HD.out).mono ?_
      rintro e' w' ⟨rfl, rfl⟩
      go_wp2_with fail
      refine (halves_any _ k C z _ HF.out (by omega) (by omega) HT.out).mono ?_
      rintro e' w' ⟨rfl, rfl⟩
      rw [← HVV.out, ← HHH.out, ← HOO.out]
      go_wp2
      go_quiet (fail)
      go_wp2
      refine bodyPost_ret (v := .tuple #[.int .i64 (H : Int), .slice (some ⟨b, o + k, none⟩) (n - k) (C - k), .int .i64 0]) (by simp [results, Try.results20, go_sem]) rfl ?_
      rw [HS.out]
      exact rpost_tail HV.out hkn (by omega) _
#print axioms rgetint_any
end Go.Proofs.Ytfnmdcfnojgofaa
