/-
  The document's own device (quartermasterref06), walked: Flush, Crash.
-/
import Derived.Test.YtjibfoplihaabaaMg25
namespace Go.Proofs.Ytjibfoplihaabaa
open Go.RowKit
set_option linter.unusedVariables false
set_option maxRecDepth 100000

/-! ### a write that waits, taken out of its row -/
theorem RefIs.ldW {base : Nat} {F : Nat → Prop} {w : World} {q : Rh} {d : Dev} (h : RefIs base F w q d) {k : Nat} {y : Wt × Value} (hk : q.X[k]? = some y) : ∃ g cap, q.V = .slice (some ⟨g, 0, none⟩) q.X.length cap ∧ (loadVar 102 ⟨g, k * 2, none⟩).run Try.prog w = .ok (.agg #[.int .i64 (y.1.pl : Int), y.2]) w := by
  obtain ⟨g, cap, hv, x0, x1⟩ := h.wt hk
  refine ⟨g, cap, hv, ?_⟩
  exact run_loadVar_mid w g (k * 2) _ [.int .i64 (y.1.pl : Int), y.2] _ (fun j v hj => by
    match j, hj with
    | 0, hj => simp at hj; subst hj; exact x0
    | 1, hj => simp at hj; subst hj; exact x1
    | j + 2, hj => simp at hj) Try.underlying102 rfl (show _ = some 2 by kernel_rfl)
/-- Nothing waits any more. -/
theorem RefIs.nilW {base : Nat} {F : Nat → Prop} {w : World} {q : Rh} {d : Dev} (h : RefIs base F w q d) : RefIs base F (w.setCell ⟨q.B, 2, none⟩ (.slice none 0 0)) { q with V := .slice none 0 0, X := [] } { d with W := [] } :=
  h.setW (Ch.refl _ w) (.slice none 0 0) [] (World.ownsRow_nil _ _ _ _) (fun i hi => by cases hi) (fun y hy => by cases hy)
structure FlSt (base : Nat) (F : Nat → Prop) (w wr : World) (q : Rh) (d : Dev) : Prop where
  dev : ∃ s, RefIs base F wr { q with s := s } d
  ch : Ch F w wr
theorem FlSt.fin {base : Nat} {F : Nat → Prop} {w wr : World} {q : Rh} {d : Dev} (h : FlSt base F w wr q d) {y : Wt × Value} (hy : y ∈ q.X) : Calls Try.prog 53 #[.pointer (some ⟨q.B, 0, none⟩), .agg #[.int .i64 (y.1.pl : Int), y.2]] wr fun e w' => e = .returned (.tuple #[]) ∧ FlSt base F w w' q (finD d y.1) := by
  obtain ⟨s, h1⟩ := h.dev
  refine (rdoes_any base F _ d y.1 y.2 wr h1 (h1.Xpl hy) (h1.xrow y hy) (h1.fx y hy)).mono ?_
  rintro e w' ⟨rfl, h2, h3⟩
  exact ⟨rfl, ⟨_, h2⟩, h.ch.trans h3⟩
set_option maxHeartbeats 800000 in
set_option maxRecDepth 100000 in
theorem rflush_any (base : Nat) (F : Nat → Prop) (q : Rh) (d : Dev) (w : World) (h : RefIs base F w q d) (hW : d.W.length ≤ 1048576) :
    Calls Try.prog 45 #[.pointer (some ⟨q.B, 0, none⟩)] w (RPost base F q.B (flushD d) (.int .i64 (flushE d)) w) := by
  have c6 : w.cell? ⟨q.B, 6, none⟩ = some (.bool d.dead) := h.cellB 6
  have HY := Lib.hid (rdies_any base F q d w h)
  have hle := h.le
  have HLE := Lib.hid hle
  cases hd : d.dead
  · rw [hd] at c6
    cases hy : diesB d
    · have hS : flushE d = 0 ∧ flushD d = { finAll (diesD d) (diesD d).W with W := [] } := by unfold flushE flushD; rw [hd, hy, (diesD_W d).1]; exact ⟨rfl, rfl⟩
      rw [hS.1, hS.2]
      unfold DiesPost at HY
      rw [hy] at HY
      have hWL : (diesD d).W.length = d.W.length := by rw [(diesD_W d).1]
      clear h hd hy hS hle
      obtain ⟨d1, hd1⟩ : ∃ d1, d1 = diesD d := ⟨_, rfl⟩
      rw [← hd1] at HY hWL ⊢
      rw [← hWL] at hW
      clear hWL hd1
      go_enter Try.func45, Try.ntmps45
      go_wp2_with fail
      refine HY.out.mono ?_
      rintro e w1 ⟨rfl, lf1, h1, hc1⟩
      obtain ⟨A, C, hv⟩ := h1.vform
      have c2 : w1.cell? ⟨q.B, 2, none⟩ = some q.V := h1.cellB 2
      rw [show q.V = .slice A q.X.length C from hv] at c2
      obtain ⟨L, hL⟩ : ∃ L, L = q.X.length := ⟨_, rfl⟩
      have hLW : L ≤ 1048576 := by rw [hL, h1.XL]; exact hW
      rw [← hL] at c2
      have hv' : q.V = .slice A L C := by rw [hL]; exact hv
      have HV := Lib.hid hv'
      have HL := Lib.hid hL
      have HXW := Lib.hid h1.XW
      have HS0 := Lib.hid (show FlSt base F w w1 { q with lf := lf1 } (finAll d1 (d1.W.take 0)) from ⟨⟨_, h1⟩, hc1⟩)
      obtain ⟨B, G, L', P, Q, cG, cL, cP, cQ, V, s, X, m, lf⟩ := q
      clear h1 hc1 hv hv' hL HY hW
      go_wp2_with fail
      go_loopw [3] (fun i wr => ∃ k : Nat, k ≤ L ∧ i = .int .i64 k ∧ Hid (FlSt base F w wr ⟨B, G, L', P, Q, cG, cL, cP, cQ, V, s, X, m, lf1⟩ (finAll d1 (d1.W.take k)))) (fun i _ => L - (intOf i).toNat)
      case atStart => exact ⟨0, Nat.zero_le _, rfl, HS0⟩
      case round =>
        obtain ⟨k, hk, rfl, HK⟩ := hrel
        obtain ⟨s2, h2⟩ := HK.out.dev
        have e2 : wr.cell? ⟨B, 2, none⟩ = some (.slice A L C) := by rw [← HV.out]; exact h2.cellB 2
        by_cases hlt : k < L
        · obtain ⟨y, hy⟩ : ∃ y, X[k]? = some y := ⟨_, List.getElem?_eq_getElem (by rw [← HL.out]; exact hlt)⟩
          obtain ⟨g, cap, hv, hld⟩ := h2.ldW hy
          have hv2 := HV.out.symm.trans hv
          injection hv2 with q1 q2 q3
          subst q1
          subst q3
          have HLD := Lib.hid hld
          have HX := Lib.hid (show d1.W[k]? = some y.1 by rw [← HXW.out, List.getElem?_map, hy]; rfl)
          have HF := Lib.hid (HK.out.fin (List.mem_of_getElem? hy))
          have i1 : (0 : Int) ≤ (k : Int) := Int.natCast_nonneg _
          have i2 : (k : Int) < (L : Int) := by omega
          clear hv q2 hld hy h2
          go_wp2_with (first
            | ((with_reducible refine wpList_isOp (.load 102 (.tmp 27)) rfl ?_); refine wpList_loading _ rfl 102 (.tmp 27) rfl (.agg #[.int .i64 (y.1.pl : Int), y.2]) ⟨g, k * 2, none⟩ (by simp [Act.eval]) (by exact HLD.out) ?_)
            | (go_at_call 53; refine HF.out.mono ?_; rintro e w2 ⟨rfl, h2⟩))
          have HK2 := Lib.hid (show FlSt base F w w2 ⟨B, G, L', P, Q, cG, cL, cP, cQ, V, s, X, m, lf1⟩ (finAll d1 (d1.W.take (k + 1))) by rw [take_snoc HX.out, finAll_snoc]; exact h2)
          clear h2
          go_wp2
          go_roundw
          case rel => exact ⟨k + 1, by omega, by go_num, HK2⟩
          case measure => simp [intOf]; omega
        · obtain rfl : k = L := by omega
          have f2 := h2.frB 2
          have hp := RPost.mk (r := .int .i64 0) h2.nilW (HK.out.ch.trans (h2.chB 2 _)) HLE.out
          rw [show d1.W.take k = d1.W by rw [HL.out, show X.length = d1.W.length by rw [← HXW.out, List.length_map], List.take_length]] at hp
          have HP := Lib.hid hp
          clear hp h2
          go_wp2
          go_ret
          exact HP.out
    · have hS : flushE d = 21 ∧ flushD d = diesD d := by unfold flushE flushD; rw [hd, hy]; exact ⟨rfl, rfl⟩
      unfold DiesPost at HY
      rw [hy] at HY
      rw [hS.1, hS.2]
      clear h hd hy
      go_enter Try.func45, Try.ntmps45
      go_wp2_with fail
      refine HY.out.mono ?_
      rintro e w1 ⟨rfl, lf1, h1, hc1⟩
      have HP := Lib.hid (RPost.mk (r := .int .i64 21) h1 hc1 HLE.out)
      clear h1 hc1
      go_wp2
      go_ret
      exact HP.out
  · rw [hd] at c6
    have hS : flushE d = 21 ∧ flushD d = d := by unfold flushE flushD; rw [hd]; exact ⟨rfl, rfl⟩
    have HP := Lib.hid (RPost.mk (r := .int .i64 21) h (Ch.refl _ w) hle)
    rw [hS.1, hS.2]
    clear h hd
    go_enter Try.func45, Try.ntmps45
    go_wp2_with fail
    go_ret
    exact HP.out
#print axioms rflush_any

end Go.Proofs.Ytjibfoplihaabaa
