/-
  The document's own device (quartermasterref06), walked: Flush, Crash.
-/
import Derived.Test.YtkbhpkpacojpcaaDrB
namespace Go.Proofs.Ytkbhpkpacojpcaa
open Go.RowKit
set_option linter.unusedVariables false

/-! ### a write that waits, taken out of its row -/
theorem RefIs.ldW {base : Nat} {F : Nat → Prop} {w : World} {q : Rh} {d : Dev} (h : RefIs base F w q d) {k : Nat} {y : Wt × Value} (hk : q.X[k]? = some y) : ∃ g cap, q.V = .slice (some ⟨g, 0, none⟩) q.X.length cap ∧ (loadVar 89 ⟨g, k * 2, none⟩).run Try.prog w = .ok (.agg #[.int .i64 (y.1.pl : Int), y.2]) w := by
  obtain ⟨g, cap, hv, x0, x1⟩ := h.wt hk
  refine ⟨g, cap, hv, ?_⟩
  exact run_loadVar_mid w g (k * 2) _ [.int .i64 (y.1.pl : Int), y.2] _ (fun j v hj => by
    match j, hj with
    | 0, hj => simp at hj; subst hj; exact x0
    | 1, hj => simp at hj; subst hj; exact x1
    | j + 2, hj => simp at hj) Try.underlying89 rfl (show _ = some 2 by kernel_rfl)
/-- Nothing waits any more. -/
theorem RefIs.nilW {base : Nat} {F : Nat → Prop} {w : World} {q : Rh} {d : Dev} (h : RefIs base F w q d) : RefIs base F (w.setCell ⟨q.B, 2, none⟩ (.slice none 0 0)) { q with V := .slice none 0 0, X := [] } { d with W := [] } :=
  h.setW (Ch.refl _ w) (.slice none 0 0) [] (World.ownsRow_nil _ _ _ _) (fun i hi => by cases hi) (fun y hy => by cases hy)
structure FlSt (base : Nat) (F : Nat → Prop) (w wr : World) (q : Rh) (d : Dev) : Prop where
  dev : ∃ s, RefIs base F wr { q with s := s } d
  ch : Ch F w wr
theorem FlSt.fin {base : Nat} {F : Nat → Prop} {w wr : World} {q : Rh} {d : Dev} (h : FlSt base F w wr q d) {y : Wt × Value} (hy : y ∈ q.X) : Calls Try.prog 44 #[.pointer (some ⟨q.B, 0, none⟩), .agg #[.int .i64 (y.1.pl : Int), y.2]] wr fun e w' => e = .returned (.tuple #[]) ∧ FlSt base F w w' q (finD d y.1) := by
  obtain ⟨s, h1⟩ := h.dev
  refine (rdoes_any base F _ d y.1 y.2 wr h1 (h1.Xpl hy) (h1.xrow y hy) (h1.fx y hy)).mono ?_
  rintro e w' ⟨rfl, h2, h3⟩
  exact ⟨rfl, ⟨_, h2⟩, h.ch.trans h3⟩
set_option maxHeartbeats 800000 in
set_option maxRecDepth 100000 in
theorem rflush_any (base : Nat) (F : Nat → Prop) (q : Rh) (d : Dev) (w : World) (h : RefIs base F w q d) (hW : d.W.length ≤ 1048576) :
    Calls Try.prog 29 #[.pointer (some ⟨q.B, 0, none⟩)] w (RPost base F q.B (flushD d) (.int .i64 (flushE d)) w) := by
  have c6 : w.cell? ⟨q.B, 6, none⟩ = some (.bool d.dead) := h.cellB 6
  have HY := Lib.hid (rdies_any base F q d w h)
  have hle := h.le
  have HLE := Lib.hid hle
  cases hd : d.dead
  · rw [hd] at c6
    cases hy : diesB d
    · have hS : flushE d = 0 ∧ flushD d = { finAll (diesD d) (diesD d).W with W := [] } := by unfold flushE flushD; rw [hd, hy, (diesD_W d).1]; exact ⟨rfl, rfl⟩
      rw [hS.1, hS.2]
      unfold DiesPost at HY
      rw [hy] at HY
      have hWL : (diesD d).W.length = d.W.length := by rw [(diesD_W d).1]
      clear h hd hy hS hle
      obtain ⟨d1, hd1⟩ : ∃ d1, d1 = diesD d := ⟨_, rfl⟩
      rw [← hd1] at HY hWL ⊢
      rw [← hWL] at hW
      clear hWL hd1
      go_enter Try.func29, Try.ntmps29
      go_wp2_with fail
      refine HY.out.mono ?_
      rintro e w1 ⟨rfl, lf1, h1, hc1⟩
      obtain ⟨A, C, hv⟩ := h1.vform
      have c2 : w1.cell? ⟨q.B, 2, none⟩ = some q.V := h1.cellB 2
      rw [show q.V = .slice A q.X.length C from hv] at c2
      obtain ⟨L, hL⟩ : ∃ L, L = q.X.length := ⟨_, rfl⟩
      have hLW : L ≤ 1048576 := by rw [hL, h1.XL]; exact hW
      rw [← hL] at c2
      have hv' : q.V = .slice A L C := by rw [hL]; exact hv
      have HV := Lib.hid hv'
      have HL := Lib.hid hL
      have HXW := Lib.hid h1.XW
      have HS0 := Lib.hid (show FlSt base F w w1 { q with lf := lf1 } (finAll d1 (d1.W.take 0)) from ⟨⟨_, h1⟩, hc1⟩)
      obtain ⟨B, G, L', P, Q, cG, cL, cP, cQ, V, s, X, m, lf⟩ := q
      clear h1 hc1 hv hv' hL HY hW
      go_wp2_with fail
      go_loopw [3] (fun i wr => ∃ k : Nat, k ≤ L ∧ i = .int .i64 k ∧ Hid (FlSt base F w wr ⟨B, G, L', P, Q, cG, cL, cP, cQ, V, s, X, m, lf1⟩ (finAll d1 (d1.W.take k)))) (fun i _ => L - (intOf i).toNat)
      case atStart => exact ⟨0, Nat.zero_le _, rfl, HS0⟩
      case round =>
        obtain ⟨k, hk, rfl, HK⟩ := hrel
        obtain ⟨s2, h2⟩ := HK.out.dev
        have e2 : wr.cell? ⟨B, 2, none⟩ = some (.slice A L C) := by rw [← HV.out]; exact h2.cellB 2
        by_cases hlt : k < L
        · obtain ⟨y, hy⟩ : ∃ y, X[k]? = some y := ⟨_, List.getElem?_eq_getElem (by rw [← HL.out]; exact hlt)⟩
          obtain ⟨g, cap, hv, hld⟩ := h2.ldW hy
          have hv2 := HV.out.symm.trans hv
          injection hv2 with q1 q2 q3
          subst q1
          subst q3
          have HLD := Lib.hid hld
          have HX := Lib.hid (show d1.W[k]? = some y.1 by rw [← HXW.out, List.getElem?_map, hy]; rfl)
          have HF := Lib.hid (HK.out.fin (List.mem_of_getElem? hy))
          have i1 : (0 : Int) ≤ (k : Int) := Int.natCast_nonneg _
          have i2 : (k : Int) < (L : Int) := by omega
          clear hv q2 hld hy h2
          go_wp2_with (first
            | ((with_reducible refine wpList_isOp (.load 89 (.tmp 27)) rfl ?_); refine wpList_loading _ rfl 89 (.tmp 27) rfl (.agg #[.int .i64 (y.1.pl : Int), y.2]) ⟨g, k * 2, none⟩ (by simp [Act.eval]) (by exact HLD.out) ?_)
            | (go_at_call 44; refine HF.out.mono ?_; rintro e w2 ⟨rfl, h2⟩))
          have HK2 := Lib.hid (show FlSt base F w w2 ⟨B, G, L', P, Q, cG, cL, cP, cQ, V, s, X, m, lf1⟩ (finAll d1 (d1.W.take (k + 1))) by rw [take_snoc HX.out, finAll_snoc]; exact h2)
          clear h2
          go_wp2
          go_roundw
          case rel => exact ⟨k + 1, by omega, by go_num, HK2⟩
          case measure => simp [intOf]; omega
        · obtain rfl : k = L := by omega
          have f2 := h2.frB 2
          have hp := RPost.mk (r := .int .i64 0) h2.nilW (HK.out.ch.trans (h2.chB 2 _)) HLE.out
          rw [show d1.W.take k = d1.W by rw [HL.out, show X.length = d1.W.length by rw [← HXW.out, List.length_map], List.take_length]] at hp
          have HP := Lib.hid hp
          clear hp h2
          go_wp2
          go_ret
          exact HP.out
    · have hS : flushE d = 21 ∧ flushD d = diesD d := by unfold flushE flushD; rw [hd, hy]; exact ⟨rfl, rfl⟩
      unfold DiesPost at HY
      rw [hy] at HY
      rw [hS.1, hS.2]
      clear h hd hy
      go_enter Try.func29, Try.ntmps29
      go_wp2_with fail
      refine HY.out.mono ?_
      rintro e w1 ⟨rfl, lf1, h1, hc1⟩
      have HP := Lib.hid (RPost.mk (r := .int .i64 21) h1 hc1 HLE.out)
      clear h1 hc1
      go_wp2
      go_ret
      exact HP.out
  · rw [hd] at c6
    have hS : flushE d = 21 ∧ flushD d = d := by unfold flushE flushD; rw [hd]; exact ⟨rfl, rfl⟩
    have HP := Lib.hid (RPost.mk (r := .int .i64 21) h (Ch.refl _ w) hle)
    rw [hS.1, hS.2]
    clear h hd
    go_enter Try.func29, Try.ntmps29
    go_wp2_with fail
    go_ret
    exact HP.out
#print axioms rflush_any

/-! ### Crash -/
theorem RefIs.crashed {base : Nat} {F : Nat → Prop} {w : World} {q : Rh} {d : Dev} (h : RefIs base F w q d) : RefIs base F (((w.setCell ⟨q.B, 2, none⟩ (.slice none 0 0)).setCell ⟨q.B, 6, none⟩ (.bool false)).setCell ⟨q.B, 5, none⟩ (.bool false)) { q with V := .slice none 0 0, X := [] } { d with W := [], dead := false, armed := false } := by
  have h1 := h.nilW
  have h2 := h1.setB 6 (.bool false) false d.armed d.left d.ops q.lf rfl h.lf h.lfa
  exact h2.setB 5 (.bool false) false false d.left d.ops q.lf rfl h.lf (fun e => by cases e)
set_option maxHeartbeats 800000 in
set_option maxRecDepth 100000 in
theorem rcrash_any (base : Nat) (F : Nat → Prop) (q : Rh) (d : Dev) (A : Option Addr) (n C : Nat) (qf : Nat → Bool) (w : World) (h : RefIs base F w q d) (hW : d.W.length ≤ 1048576) (hk : RowQ w (.slice A n C) n qf) (hkf : ∀ b o, A = some ⟨b, o, none⟩ → 0 < n → ¬ F b) :
    Calls Try.prog 31 #[.pointer (some ⟨q.B, 0, none⟩), .slice A n C] w (RPost base F q.B (crashD d n qf) (.tuple #[]) w) := by
  obtain ⟨A1, C1, hv⟩ := h.vform
  have c2 : w.cell? ⟨q.B, 2, none⟩ = some q.V := h.cellB 2
  obtain ⟨L, hL⟩ : ∃ L, L = q.X.length := ⟨_, rfl⟩
  have hLW : L ≤ 1048576 := by rw [hL, h.XL]; exact hW
  rw [← hL] at hv
  rw [hv] at c2
  have HLE := Lib.hid h.le
  have HV := Lib.hid hv
  have HL := Lib.hid hL
  have HXW := Lib.hid h.XW
  have HKQ := Lib.hid hk
  have HKF := Lib.hid hkf
  have HS0 := Lib.hid (show FlSt base F w w q (crTo d n qf 0) from ⟨⟨_, h⟩, Ch.refl _ _⟩)
  have hn63 : n ≤ 9223372036854775807 := by obtain ⟨_, _, e, h1, _⟩ := hk; exact h1
  obtain ⟨B, G, L', P, Q, cG, cL, cP, cQ, V, s, X, m, lf⟩ := q
  clear h hv hL hk hkf hW
  go_enter Try.func31, Try.ntmps31
  go_wp2_with fail
  go_loopw [4] (fun i wr => ∃ k : Nat, k ≤ L ∧ i = .int .i64 k ∧ Hid (FlSt base F w wr ⟨B, G, L', P, Q, cG, cL, cP, cQ, V, s, X, m, lf⟩ (crTo d n qf k))) (fun i _ => L - (intOf i).toNat)
  case atStart => exact ⟨0, Nat.zero_le _, rfl, HS0⟩
  case round =>
    obtain ⟨k, hk, rfl, HK⟩ := hrel
    obtain ⟨s2, h2⟩ := HK.out.dev
    have e2 : wr.cell? ⟨B, 2, none⟩ = some (.slice A1 L C1) := by rw [← HV.out]; exact h2.cellB 2
    by_cases hlt : k < L
    · obtain ⟨y, hy⟩ : ∃ y, X[k]? = some y := ⟨_, List.getElem?_eq_getElem (by rw [← HL.out]; exact hlt)⟩
      obtain ⟨g, cap, hv, hld⟩ := h2.ldW hy
      have hv2 := HV.out.symm.trans hv
      injection hv2 with q1 q2 q3
      subst q1
      subst q3
      have HLD := Lib.hid hld
      have hx : d.W[k]? = some y.1 := by rw [← HXW.out, List.getElem?_map, hy]; rfl
      have HF := Lib.hid (HK.out.fin (List.mem_of_getElem? hy))
      have i1 : (0 : Int) ≤ (k : Int) := Int.natCast_nonneg _
      have i2 : (k : Int) < (L : Int) := by omega
      have hcr : crTo d n qf (k + 1) = if keepB n qf k then finD (crTo d n qf k) y.1 else crTo d n qf k := by
        conv => lhs; unfold crTo
        rw [hx]
      by_cases hn : 0 < n
      · obtain ⟨b, o, hA, hcell⟩ := HKQ.out.at hn
        subst hA
        have hmod : k % n < n := Nat.mod_lt _ hn
        have hc := hcell (k % n) hmod
        have cq : wr.cell? ⟨b, o + k % n, none⟩ = some (.bool (qf (k % n))) := (World.cell?_of_block (HK.out.ch.block b (World.block_lt_of_cell? _ _ hc) (HKF.out b o rfl hn))).trans hc
        have j1 : (0 : Int) < (n : Int) := by omega
        have j3 : (k : Int) % (n : Int) = ((k % n : Nat) : Int) := by omega
        have j4 : (0 : Int) ≤ ((k % n : Nat) : Int) := Int.natCast_nonneg _
        have j5 : ((k % n : Nat) : Int) < (n : Int) := by omega
        have j6 : Int.tmod (k : Int) (n : Int) = ((k % n : Nat) : Int) := by rw [Int.tmod_eq_emod_of_nonneg i1]; omega
        have hkb : keepB n qf k = qf (k % n) := by unfold keepB; rw [decide_eq_true hn]; rfl
        rw [hkb] at hcr
        obtain ⟨r, hr⟩ : ∃ r, r = k % n := ⟨_, rfl⟩
        rw [← hr] at cq j3 j4 j5 j6 hcr
        clear hmod hc hkb hr hcell hn
        cases hqr : qf r
        · rw [hqr] at cq hcr
          have HK2 := Lib.hid (show FlSt base F w wr ⟨B, G, L', P, Q, cG, cL, cP, cQ, V, s, X, m, lf⟩ (crTo d n qf (k + 1)) by rw [hcr]; exact HK.out)
          clear hv q2 hx hcr hqr HF hld hy h2
          go_wp2
          go_roundw
          case rel => exact ⟨k + 1, by omega, by go_num, HK2⟩
          case measure => simp [intOf]; omega
        · rw [hqr] at cq hcr
          have HCR := Lib.hid hcr
          clear hv q2 hx hcr hqr hld hy h2
          go_wp2_with (first
            | ((with_reducible refine wpList_isOp (.load 89 (.tmp 32)) rfl ?_); refine wpList_loading _ rfl 89 (.tmp 32) rfl (.agg #[.int .i64 (y.1.pl : Int), y.2]) ⟨g, k * 2, none⟩ (by simp [Act.eval]) (by exact HLD.out) ?_)
            | (go_at_call 44; refine HF.out.mono ?_; rintro e w2 ⟨rfl, h2⟩))
          have HK2 := Lib.hid (show FlSt base F w w2 ⟨B, G, L', P, Q, cG, cL, cP, cQ, V, s, X, m, lf⟩ (crTo d n qf (k + 1)) by rw [HCR.out]; exact h2)
          clear h2
          go_wp2
          go_roundw
          case rel => exact ⟨k + 1, by omega, by go_num, HK2⟩
          case measure => simp [intOf]; omega
      · obtain rfl : n = 0 := by omega
        have HK2 := Lib.hid (show FlSt base F w wr ⟨B, G, L', P, Q, cG, cL, cP, cQ, V, s, X, m, lf⟩ (crTo d 0 qf (k + 1)) by rw [hcr]; exact HK.out)
        clear hv q2 hx hcr HF hld hy h2 hn
        go_wp2
        go_roundw
        case rel => exact ⟨k + 1, by omega, by go_num, HK2⟩
        case measure => simp [intOf]; omega
    · obtain rfl : k = L := by omega
      have f2 := h2.frB 2
      have f5 := h2.frB 5
      have f6 := h2.frB 6
      have e5 : wr.cell? ⟨B, 5, none⟩ = some (.bool (crTo d n qf k).armed) := h2.cellB 5
      have e6 : wr.cell? ⟨B, 6, none⟩ = some (.bool (crTo d n qf k).dead) := h2.cellB 6
      have kc : Ch F wr (((wr.setCell ⟨B, 2, none⟩ (.slice none 0 0)).setCell ⟨B, 6, none⟩ (.bool false)).setCell ⟨B, 5, none⟩ (.bool false)) :=
        (((Ch.refl F wr).setCell (p := ⟨B, 2, none⟩) (Or.inl h2.fB) _).setCell (p := ⟨B, 6, none⟩) (Or.inl h2.fB) _).setCell (p := ⟨B, 5, none⟩) (Or.inl h2.fB) _
      have hp := RPost.mk (r := .tuple #[]) h2.crashed (HK.out.ch.trans kc) HLE.out
      rw [show ({ crTo d n qf k with W := [], dead := false, armed := false } : Dev) = crashD d n qf by unfold crashD; rw [show d.W.length = k by rw [HL.out, ← HXW.out, List.length_map]]] at hp
      have HP := Lib.hid hp
      clear hp h2 kc
      go_wp2
      go_end0
      exact HP.out
#print axioms rcrash_any
end Go.Proofs.Ytkbhpkpacojpcaa
