/-
  The document's digits, Num, Int and Bytes (quartermasterref05), walked.
-/
import Derived.Test.YtfnmdcfnojgofaaCodO
namespace Go.Proofs.Ytfnmdcfnojgofaa
open Go.RowKit Go.Shelf Cod
set_option linter.unusedVariables false

theorem one_owned (w : World) {x : Int} {y : Nat} (h : x = (y : Int)) : (w.alloc (.cells #[.int .u8 x] /-t-/5)).ownsRow w.heap.size /-t-/5 1 (.slice (some ⟨w.heap.size, 0, none⟩) 1 1) 1 (bytesL 1 (litZ [y])) := by
  subst h
  exact ⟨rfl, Or.inr ⟨w.heap.size, 1, #[.int .u8 (y : Int)], rfl, Nat.le_refl _, heap_alloc_new w _, Nat.le_refl _, (by unfold maxLen; omega), rfl, rfl⟩⟩
def DigAt (half : Nat) : Prop := ∀ (odd : Nat) (w : World), odd ≤ 1 → Calls Try.prog 27 #[.int .i64 (half : Int), .int .i64 (odd : Int)] w (NewL (digs (2 * half + odd)).length (litZ (digs (2 * half + odd))) w)
set_option maxHeartbeats 400000 in
theorem rnum_of (n : Nat) (hn : n ≤ 9223372036854775807) (h : DigAt (n / 2)) (w : World) : Calls Try.prog 11 #[.int .i64 (n : Int)] w (NewL (digs n).length (litZ (digs n)) w) := by
  have H := Lib.hid (h (n % 2) w (by omega))
  rw [show 2 * (n / 2) + n % 2 = n by omega] at H
  have e1 : ((n / 2 : Nat) : Int) = (n : Int) / 2 := by omega
  have e2 : ((n % 2 : Nat) : Int) = (n : Int) % 2 := by omega
  rw [e1, e2] at H
  clear h e1 e2
  go_enter Try.func11, Try.ntmps11
  go_wp2_with fail
  refine H.out.mono ?_
  rintro e w1 ⟨v, rfl, h1, h2⟩
  have H1 := Lib.hid h1
  have H2 := Lib.hid h2
  clear h1 h2
  go_wp2
  go_ret
  exact ⟨_, rfl, H1.out, H2.out⟩
set_option maxHeartbeats 1000000 in
theorem rdigits_all (half : Nat) : half ≤ 9223372036854775807 → DigAt half := by
  induction half using Nat.strongRecOn with
  | _ half ih =>
    intro hh odd w ho
    by_cases hs : half < 64
    · rw [digs_small (show 2 * half + odd < 128 by omega)]
      have HO := Lib.hid (one_owned w (x := 2 * (half : Int) + (odd : Int)) (y := 2 * half + odd) (by omega))
      have t1 : decide ((half : Int) < 64) = true := by simp; omega
      clear ih
      go_enter Try.func27, Try.ntmps27
      go_wp2
      go_ret
      exact ⟨_, rfl, HO.out, (Ch.refl _ w).alloc _ _⟩
    · have t1 : decide ((half : Int) < 64) = false := by simp; omega
      have HN := Lib.hid (fun w : World => rnum_of (half / 64) (by omega) (ih (half / 64 / 2) (by omega) (by omega)) w)
      have HD := Lib.hid (digs_big (n := 2 * half + odd) (by omega))
      rw [show (2 * half + odd) % 128 + 128 = 2 * (half % 64) + odd + 128 by omega, show (2 * half + odd) / 128 = half / 64 by omega] at HD
      have e1 : ((half / 64 : Nat) : Int) = (half : Int) / 64 := by omega
      have HO := Lib.hid (one_owned w (x := 2 * ((half : Int) % 64) + (odd : Int) + 128) (y := 2 * (half % 64) + odd + 128) (by omega))
      have hlen := digs_len10 (n := half / 64) (by omega)
      clear ih
      go_enter Try.func27, Try.ntmps27
      go_wp2_with fail
      rw [← e1]
      refine (HN.out _).mono ?_
      rintro e w1 ⟨v, rfl, h1, h2⟩
      have hr := ownsRow_rowV h1 (by omega) (fun c _ => litZ_b (digs_b _) c)
      obtain ⟨v2, w2, hr2, ho2, hg2, _⟩ := app_row (ownsRow_ch HO.out h2) (by have := h2.size; simp at this; omega) hr (by omega)
      have hlit : bytesL (1 + (digs (half / 64)).length) (jnZ 1 (litZ [2 * (half % 64) + odd + 128]) (litZ (digs (half / 64)))) = bytesL (digs (2 * half + odd)).length (litZ (digs (2 * half + odd))) := by
        rw [HD.out, List.length_cons, Nat.add_comm 1]
        exact bytesL_congr fun c hc => litZ_app [2 * (half % 64) + odd + 128] _ c
      have hl2 : 1 + (digs (half / 64)).length = (digs (2 * half + odd)).length := by rw [HD.out, List.length_cons, Nat.add_comm]
      rw [hlit, hl2] at ho2
      have HR := Lib.hid hr2
      have H2 := Lib.hid ho2
      have HC := Lib.hid ((((Ch.refl (fun _ => False) w).alloc #[.int .u8 (2 * ((half : Int) % 64) + (odd : Int) + 128)] /-t-/5).trans h2).grown hg2 (fun i e => Or.inr (World.ownsRow.lt (ownsRow_ch HO.out h2) i e).1))
      clear hr hr2 ho2 hg2 h1 h2 hlit hl2 hlen
      go_wp2_with (at_builtin; refine wpList_app_of _ rfl (.tmp 20) (.tmp 23) rfl rfl _ _ v2 w2 rfl rfl HR.out ?_)
      go_ret
      exact ⟨_, rfl, H2.out, HC.out⟩
theorem rnum_any (n : Nat) (hn : n ≤ 9223372036854775807) (w : World) : Calls Try.prog 11 #[.int .i64 (n : Int)] w (NewL (digs n).length (litZ (digs n)) w) := rnum_of n hn (rdigits_all _ (by omega)) w
#print axioms rnum_any
set_option maxHeartbeats 400000 in
theorem rint_any (n : Int) (hn : -9223372036854775808 ≤ n ∧ n ≤ 9223372036854775807) (w : World) : Calls Try.prog 12 #[.int .i64 n] w (NewL (digs (turnZ n)).length (litZ (digs (turnZ n))) w) := by
  have h1 := hn.1
  have h2 := hn.2
  by_cases h : n < 0
  · obtain ⟨m, hm⟩ : ∃ m : Nat, -(n + 1) = (m : Int) := ⟨(-(n + 1)).toNat, by omega⟩
    have H := Lib.hid (rdigits_all m (by omega) 1 w (by omega))
    rw [show 2 * m + 1 = turnZ n by have := turn_neg h; omega] at H
    have HM := Lib.hid hm
    have t1 : decide (n < 0) = true := by simpa using h
    clear hm hn
    go_enter Try.func12, Try.ntmps12
    go_wp2_with fail
    rw [HM.out]
    refine H.out.mono ?_
    rintro e w1 ⟨v, rfl, h1, h2⟩
    have H1 := Lib.hid h1
    have H2 := Lib.hid h2
    clear h1 h2
    go_wp2
    go_ret
    exact ⟨_, rfl, H1.out, H2.out⟩
  · obtain ⟨m, rfl⟩ : ∃ m : Nat, n = (m : Int) := ⟨n.toNat, by omega⟩
    have H := Lib.hid (rdigits_all m (by omega) 0 w (by omega))
    rw [show 2 * m + 0 = turnZ (m : Int) by have := turn_pos h; omega] at H
    have t1 : decide ((m : Int) < 0) = false := by simp
    clear hn h
    go_enter Try.func12, Try.ntmps12
    go_wp2_with fail
    refine H.out.mono ?_
    rintro e w1 ⟨v, rfl, h1, h2⟩
    have H1 := Lib.hid h1
    have H2 := Lib.hid h2
    clear h1 h2
    go_wp2
    go_ret
    exact ⟨_, rfl, H1.out, H2.out⟩
#print axioms rint_any

/-! ### Bytes -/
set_option maxHeartbeats 400000 in
theorem rbytes_long (A : Option Addr) (l C : Nat) (hl : 4096 < l) (hl2 : l ≤ 140737488351232) (w : World) : Calls Try.prog 13 #[.slice A l C] w fun e w' => e = .returned (.tuple #[.slice none 0 0, .int .i64 2]) ∧ w = w' := by
  have t1 : decide ((4096 : Int) < (l : Int)) = true := by simp; omega
  go_enter Try.func13, Try.ntmps13
  go_wp2
  go_ret2
  exact ⟨rfl, rfl⟩
set_option maxHeartbeats 400000 in
theorem rbytes_any (A : Option Addr) (l C : Nat) (z : Nat → Nat) (w : World) (hl : l ≤ 4096) (h : RowV w (.slice A l C) l z) : Calls Try.prog 13 #[.slice A l C] w fun e w' => ∃ v, e = .returned (.tuple #[v, .int .i64 0]) ∧ w'.ownsRow w.heap.size /-t-/5 1 v (byL l z).length (bytesL (byL l z).length (litZ (byL l z))) ∧ Ch (fun _ => False) w w' := by
  have H := Lib.hid (rnum_any l (by omega) w)
  have HX := Lib.hid h
  have t1 : decide ((4096 : Int) < (l : Int)) = false := by simp; omega
  clear h
  go_enter Try.func13, Try.ntmps13
  go_wp2_with fail
  refine H.out.mono ?_
  rintro e w1 ⟨v1, rfl, h1, h2⟩
  have hlen := digs_len10 (n := l) (by omega)
  obtain ⟨v2, w2, hr2, ho2, hg2, _⟩ := app_row h1 h2.size (HX.out.gr h2) (by omega)
  rw [app_lit, ← rowL_len l z, ← List.length_append] at ho2
  have HR := Lib.hid hr2
  have H2 := Lib.hid (show w2.ownsRow w.heap.size /-t-/5 1 v2 (byL l z).length (bytesL (byL l z).length (litZ (byL l z))) by unfold byL; rw [rowL_len] at ho2; exact ho2)
  have HC := Lib.hid (h2.grown hg2 (fun i e => Or.inr (World.ownsRow.lt h1 i e).1))
  clear hr2 ho2 hg2 h1 h2 hlen
  go_wp2_with (at_builtin; refine wpList_app_of _ rfl (.tmp 9) (.tmp 10) rfl rfl _ _ v2 w2 rfl rfl HR.out ?_)
  go_ret2
  exact ⟨_, rfl, H2.out, HC.out⟩
#print axioms rbytes_any
end Go.Proofs.Ytfnmdcfnojgofaa
