/-
  mat.turnRows, walked: row by row, by what is handed over.
-/
import Derived.Test.YtlgdajmidcdiaaaRowOps
import Derived.Test.YtlgdajmidcdiaaaReads
namespace Go.Proofs.Ytlgdajmidcdiaaa
open Go.RowKit
set_option linter.unusedVariables false

def TurnPost (P : Nat → World → Prop) (n : Nat) (e : Ending) (w' : World) : Prop := e = .returned (.tuple #[]) ∧ P n w'
/-- What one call of the function that is handed over has to do. -/
def Turns (F : FuncId) (caps : Array Value) (g n m : Nat) (B : Nat → Nat) (P : Nat → World → Prop) : Prop :=
  ∀ i W, i < n → P i W → W.cell? ⟨g, i, none⟩ = some (.slice (some ⟨B i, 0, none⟩) m m) ∧ Calls Try.prog F (#[.int .i64 (i : Int), .slice (some ⟨B i, 0, none⟩) m m] ++ caps) W (TurnPost P (i + 1))
set_option maxHeartbeats 800000 in
theorem turn0_any (F : FuncId) (g n m : Nat) (B : Nat → Nat) (P : Nat → World → Prop) (w : World) (hn : n ≤ 64) (eg : ∀ args W, (callFunc F args).run Try.prog W = .ok (.enter F args) W) (H : Turns F #[] g n m B P) (h0 : P 0 w) :
    Calls Try.prog 35 #[.slice (some ⟨g, 0, none⟩) n n, .func (.func F) #[] #[]] w (TurnPost P n) := by
  have HH := Lib.hid H
  have H0 := Lib.hid h0
  clear H h0
  go_enter Try.func35, Try.ntmps35
  go_wp2
  go_loopw [7, 4] (fun i _ wr => ∃ k : Nat, k ≤ n ∧ i = .int .i64 k ∧ Hid (P k wr)) (fun i _ _ => n - (intOf i).toNat)
  case atStart => exact ⟨0, Nat.zero_le _, rfl, H0⟩
  case round =>
    obtain ⟨k, hk, rfl, HP⟩ := hrel
    by_cases hlt : k < n
    · obtain ⟨c1, hcall⟩ := HH.out k wr hlt HP.out
      have HC := Lib.hid hcall
      clear hcall
      go_wp2_with fail
      refine HC.out.mono ?_
      rintro e w1 ⟨rfl, hP⟩
      have HP1 := Lib.hid hP
      clear hP
      go_wp2
      go_roundw
      case rel => exact ⟨k + 1, by omega, by go_num, HP1⟩
      case measure => simp [intOf]; omega
    · have HE := Lib.hid (show k = n by omega)
      go_wp2
      go_end0
      exact ⟨rfl, by rw [← HE.out]; exact HP.out⟩
set_option maxHeartbeats 800000 in
theorem turn2_any (F : FuncId) (p1 p2 : Value) (g n m : Nat) (B : Nat → Nat) (P : Nat → World → Prop) (w : World) (hn : n ≤ 64) (eg : ∀ args W, (callFunc F args).run Try.prog W = .ok (.enter F args) W) (H : Turns F #[p1, p2] g n m B P) (h0 : P 0 w) :
    Calls Try.prog 35 #[.slice (some ⟨g, 0, none⟩) n n, .func (.func F) #[] #[p1, p2]] w (TurnPost P n) := by
  have HH := Lib.hid H
  have H0 := Lib.hid h0
  clear H h0
  go_enter Try.func35, Try.ntmps35
  go_wp2
  go_loopw [7, 4] (fun i _ wr => ∃ k : Nat, k ≤ n ∧ i = .int .i64 k ∧ Hid (P k wr)) (fun i _ _ => n - (intOf i).toNat)
  case atStart => exact ⟨0, Nat.zero_le _, rfl, H0⟩
  case round =>
    obtain ⟨k, hk, rfl, HP⟩ := hrel
    by_cases hlt : k < n
    · obtain ⟨c1, hcall⟩ := HH.out k wr hlt HP.out
      have HC := Lib.hid hcall
      clear hcall
      go_wp2_with fail
      refine HC.out.mono ?_
      rintro e w1 ⟨rfl, hP⟩
      have HP1 := Lib.hid hP
      clear hP
      go_wp2
      go_roundw
      case rel => exact ⟨k + 1, by omega, by go_num, HP1⟩
      case measure => simp [intOf]; omega
    · have HE := Lib.hid (show k = n by omega)
      go_wp2
      go_end0
      exact ⟨rfl, by rw [← HE.out]; exact HP.out⟩
set_option maxHeartbeats 800000 in
theorem turn3_any (F : FuncId) (p1 p2 p3 : Value) (g n m : Nat) (B : Nat → Nat) (P : Nat → World → Prop) (w : World) (hn : n ≤ 64) (eg : ∀ args W, (callFunc F args).run Try.prog W = .ok (.enter F args) W) (H : Turns F #[p1, p2, p3] g n m B P) (h0 : P 0 w) :
    Calls Try.prog 35 #[.slice (some ⟨g, 0, none⟩) n n, .func (.func F) #[] #[p1, p2, p3]] w (TurnPost P n) := by
  have HH := Lib.hid H
  have H0 := Lib.hid h0
  clear H h0
  go_enter Try.func35, Try.ntmps35
  go_wp2
  go_loopw [7, 4] (fun i _ wr => ∃ k : Nat, k ≤ n ∧ i = .int .i64 k ∧ Hid (P k wr)) (fun i _ _ => n - (intOf i).toNat)
  case atStart => exact ⟨0, Nat.zero_le _, rfl, H0⟩
  case round =>
    obtain ⟨k, hk, rfl, HP⟩ := hrel
    by_cases hlt : k < n
    · obtain ⟨c1, hcall⟩ := HH.out k wr hlt HP.out
      have HC := Lib.hid hcall
      clear hcall
      go_wp2_with fail
      refine HC.out.mono ?_
      rintro e w1 ⟨rfl, hP⟩
      have HP1 := Lib.hid hP
      clear hP
      go_wp2
      go_roundw
      case rel => exact ⟨k + 1, by omega, by go_num, HP1⟩
      case measure => simp [intOf]; omega
    · have HE := Lib.hid (show k = n by omega)
      go_wp2
      go_end0
      exact ⟨rfl, by rw [← HE.out]; exact HP.out⟩
theorem enter25 (args : Array Value) (W : World) : (callFunc 40 args).run Try.prog W = .ok (.enter 40 args) W := by simp [go_sem]
theorem enter27 (args : Array Value) (W : World) : (callFunc 41 args).run Try.prog W = .ok (.enter 41 args) W := by simp [go_sem]
theorem enter32 (args : Array Value) (W : World) : (callFunc 36 args).run Try.prog W = .ok (.enter 36 args) W := by simp [go_sem]
theorem enter46 (args : Array Value) (W : World) : (callFunc 58 args).run Try.prog W = .ok (.enter 58 args) W := by simp [go_sem]
theorem enter49 (args : Array Value) (W : World) : (callFunc 61 args).run Try.prog W = .ok (.enter 61 args) W := by simp [go_sem]
theorem enter50 (args : Array Value) (W : World) : (callFunc 62 args).run Try.prog W = .ok (.enter 62 args) W := by simp [go_sem]

/-! ### a matrix of which i rows are turned -/
def upto (i : Nat) (Z Y : Nat → Nat → Nat) (r c : Nat) : Nat := if r < i then Y r c else Z r c
theorem upto_lt {i r c : Nat} {Z Y : Nat → Nat → Nat} (h : r < i) : upto i Z Y r c = Y r c := if_pos h
theorem upto_ge {i r c : Nat} {Z Y : Nat → Nat → Nat} (h : ¬ r < i) : upto i Z Y r c = Z r c := if_neg h
theorem Own.start {w : World} {g n m : Nat} {B : Nat → Nat} {Z : Nat → Nat → Nat} (Y : Nat → Nat → Nat) (h : Own w g n m B Z) : Own w g n m B (upto 0 Z Y) := h.congr fun r c _ _ => by rw [upto_ge (by omega)]
theorem Own.finish {w : World} {g n m : Nat} {B : Nat → Nat} {Z Y : Nat → Nat → Nat} (h : Own w g n m B (upto n Z Y)) : Own w g n m B Y := h.congr fun r c hr _ => by rw [upto_lt hr]
theorem Own.step {w w' : World} {g n m : Nat} {B : Nat → Nat} {Z Y : Nat → Nat → Nat} {i : Nat} (h : Own w g n m B (upto i Z Y)) (hi : i < n) (k : Ch (fun j => j = B i) w w') (hr : bRow w' (B i) m (Y i)) (hy : Bytes m (Y i)) : Own w' g n m B (upto (i + 1) Z Y) := by
  refine (h.turn hi k hr hy).congr fun r c hrn _ => ?_
  by_cases e : r = i
  · rw [if_pos e, upto_lt (by omega), e]
  · rw [if_neg e]
    by_cases q : r < i
    · rw [upto_lt q, upto_lt (by omega)]
    · rw [upto_ge q, upto_ge (by omega)]
theorem Own.stay {w w' : World} {g n m : Nat} {B : Nat → Nat} {Z Y : Nat → Nat → Nat} {i : Nat} (h : Own w g n m B (upto i Z Y)) (hi : i < n) (k : Ch (fun _ => False) w w') (hy : ∀ c, c < m → Y i c = Z i c) : Own w' g n m B (upto (i + 1) Z Y) := by
  refine (h.ch k (fun f => f) (fun _ _ f => f)).congr fun r c hrn hc => ?_
  by_cases e : r = i
  · rw [upto_ge (by omega), upto_lt (by omega), e, hy c hc]
  · by_cases q : r < i
    · rw [upto_lt q, upto_lt (by omega)]
    · rw [upto_ge q, upto_ge (by omega)]
#print axioms turn0_any
#print axioms turn2_any
#print axioms turn3_any
end Go.Proofs.Ytlgdajmidcdiaaa
