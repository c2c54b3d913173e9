/-
  The document's Owners, Members, Where (quartermasterref08), walked.
-/
import Derived.Test.YtfbkfchibfiemaaGeoR
namespace Go.Proofs.Ytfbkfchibfiemaa
open Go.RowKit
set_option linter.unusedVariables false
set_option maxRecDepth 100000

/-! ### Owners -/
def ownN (n : Gn) (a : Nat) : Int := (n.ofA a : Int)
theorem own_copies (n : Gn) {a : Nat} (h : a < 4) : ownN n a = 0 := by unfold ownN Gn.ofA; rw [if_pos h]; rfl
theorem own_slots {n : Gn} (h : n.Ok) {m s : Nat} (hm : m < 2) (hs : s < n.W) : ownN n (4 + m * n.W + s) = 1 + (s : Int) := by
  have e : n.sec (1 + s) m = 4 + m * n.W + s := by
    unfold Gn.sec
    rw [if_neg (by omega), if_pos (by unfold Gn.fg; omega), Nat.add_sub_cancel_left]
  have := (Gn.of_sec h (i := 1 + s) (p := m) (by unfold Gn.grp Gn.fg; omega) (by unfold Gn.cnt; rw [if_neg (by omega), if_pos (by unfold Gn.fg; omega)]; exact hm)).1
  rw [e] at this
  unfold ownN
  rw [this]
  omega
theorem own_stripes {n : Gn} (h : n.Ok) {t x : Nat} (ht : t < 2 * n.S) (hx : x < n.q) : ownN n (n.fs + t * n.q + x) = 1 + (n.W : Int) + (t : Int) := by
  have e : n.sec (n.fg + t) x = n.fs + t * n.q + x := by
    unfold Gn.sec
    rw [if_neg (by unfold Gn.fg; omega), if_neg (by omega), Nat.add_sub_cancel_left]
  have := (Gn.of_sec h (i := n.fg + t) (p := x) (by unfold Gn.grp; omega) (by unfold Gn.cnt; rw [if_neg (by unfold Gn.fg; omega), if_neg (by omega)]; exact hx)).1
  rw [e] at this
  unfold ownN
  rw [this]
  unfold Gn.fg
  omega
theorem Nums.four (n : Gn) (w : World) : Nums w (w.alloc (.cells #[.int .i64 0, .int .i64 0, .int .i64 0, .int .i64 0] /-t-/3)) (.slice (some ⟨w.heap.size, 0, none⟩) 4 4) 4 (ownN n) := by
  have h := World.rowIs_alloc w #[.int .i64 0, .int .i64 0, .int .i64 0, .int .i64 0] /-t-/3 (fun a => .int .i64 (ownN n a)) (fun i hi => by
    have hi : i < 4 := hi
    show _ = some (Value.int .i64 (ownN n i))
    rw [own_copies n hi]
    match i, hi with
    | 0, _ => rfl
    | 1, _ => rfl
    | 2, _ => rfl
    | 3, _ => rfl)
  exact ⟨rowIs_owns h (Nat.le_refl _) (by unfold maxLen; omega), (Ch.refl _ w).alloc _ _⟩
theorem Nums.gx {w wr : World} {v : Value} {k H : Nat} {q : Nat → Int} {g : Ge} (h : Nums w wr v k q) (x : GeX w H g) : GeX wr H g := x.gr h.ch
theorem Nums.eq {w wr : World} {v : Value} {k l : Nat} {q : Nat → Int} (h : Nums w wr v k q) (e : k = l) : Nums w wr v l q := by subst e; exact h
def OwnPost (n : Gn) (w : World) (e : Ending) (w' : World) : Prop := ∃ v, e = .returned v ∧ w'.ownsRow w.heap.size /-t-/3 1 v n.tot (numL n.tot (ownN n)) ∧ Ch (fun _ => False) w w'
set_option maxHeartbeats 1600000 in
set_option maxRecDepth 100000 in
theorem owners_none (g : Ge) (h : mayG g = false) (w : World) : Calls Try.prog 16 #[.agg (geC g)] w (Ans (.slice none 0 0) w) := by
  obtain ⟨w1, H, hR⟩ := geR w g
  obtain ⟨x0, x1, x2, x3⟩ := hR.x
  have HR := Lib.hid hR
  have HM := Lib.hid h
  clear hR h
  go_enter Try.func16, Try.ntmps16
  go_wp2_with ((with_reducible refine wpList_isOp (.box 23 (.tmp 0)) rfl ?_); refine wpList_boxing _ w1 rfl 23 (.tmp 0) rfl (geC g) H rfl (by exact HR.out.sz) (by exact HR.out.al) ?_)
  refine (rmay_any g _).mono ?_
  rintro e w2 ⟨rfl, hc2⟩
  rw [HM.out]
  go_wp2
  go_ret
  exact ⟨rfl, HR.out.ch.trans hc2⟩
set_option maxHeartbeats 3200000 in
set_option maxRecDepth 100000 in
theorem owners_any (n : Gn) (hn : n.Ok) (w : World) : Calls Try.prog 16 #[.agg (geC n.ge)] w (OwnPost n w) := by
  obtain ⟨w1, H, hR⟩ := geR w n.ge
  obtain ⟨x0, x1, x2, x3⟩ := hR.x
  have HR := Lib.hid hR
  have HX := Lib.hid hR.x
  have HN := Lib.hid hn
  have HM := Lib.hid (ok_may hn)
  have bW := hn.w2
  have bS := hn.s2
  have bK := hn.k2
  have bM := hn.m2
  clear hR hn
  go_enter Try.func16, Try.ntmps16
  go_wp2_with ((with_reducible refine wpList_isOp (.box 23 (.tmp 0)) rfl ?_); refine wpList_boxing _ w1 rfl 23 (.tmp 0) rfl (geC n.ge) H rfl (by exact HR.out.sz) (by exact HR.out.al) ?_)
  refine (rmay_any n.ge _).mono ?_
  rintro e w2 ⟨rfl, hc2⟩
  rw [HM.out]
  have HX2 := Lib.hid (HX.out.gr hc2)
  have HC2 := Lib.hid (HR.out.ch.trans hc2)
  have H4 := Lib.hid (Nums.four n w2)
  clear hc2
  go_wp2
  go_loopw [4, 5, 6] (fun v m _ wr => ∃ M : Nat, M ≤ 2 ∧ m = .int .i64 (M : Int) ∧ Hid (Nums w2 wr v (4 + M * n.W) (ownN n))) (fun _ m _ _ => 2 - (intOf m).toNat)
  case atStart => exact ⟨0, by omega, rfl, Lib.hid (H4.out.eq (by omega))⟩
  case round =>
    obtain ⟨M, hM, rfl, HK⟩ := hrel
    by_cases hlt : M < 2
    · have t1 : decide ((M : Int) < 2) = true := by simp; omega
      go_wp2
      go_loopw [4, 6] (fun v s wr => ∃ s' : Nat, s' ≤ n.W ∧ s = .int .i64 (s' : Int) ∧ Hid (Nums w2 wr v (4 + M * n.W + s') (ownN n))) (fun _ s _ => n.W - (intOf s).toNat)
      case atStart => exact ⟨0, Nat.zero_le _, rfl, HK⟩
      case round =>
        obtain ⟨s, hs, rfl, HS⟩ := hrel
        have hx := HS.out.gx HX2.out
        have y0 : wr.cell? ⟨H, 0, none⟩ = some (.int .i64 (n.W : Int)) := hx.x0
        by_cases hls : s < n.W
        · have t2 : decide (s < n.W) = true := decide_eq_true hls
          have hmw : M * n.W ≤ 512 := by
            have : M = 0 ∨ M = 1 := by omega
            rcases this with rfl | rfl <;> omega
          obtain ⟨g, cap, w9, hrun, h9⟩ := HS.out.app (by omega)
          have HRUN := Lib.hid hrun
          have HEQ := Lib.hid (show 1 + (s : Int) = ownN n (4 + M * n.W + s) from (own_slots HN.out hlt hls).symm)
          have H9 := Lib.hid h9
          clear hrun h9 hmw
          go_wp2_with (at_builtin; refine wpList_appI _ rfl (.tmp 24) (.tmp 27) rfl rfl _ _ (.slice (some ⟨g, 0, none⟩) (4 + M * n.W + s + 1) cap) w9 rfl rfl (HRUN.out _ HEQ.out) ?_)
          go_roundw
          case rel => exact ⟨s + 1, hls, by go_num, H9⟩
          case measure => simp [intOf]; omega
        · obtain rfl : s = n.W := by omega
          have HE := Lib.hid (HS.out.eq (show 4 + M * n.W + n.W = 4 + (M + 1) * n.W by rw [Nat.add_mul, Nat.one_mul, Nat.add_assoc]))
          clear HS
          go_wp2
          go_roundw
          case rel => exact ⟨M + 1, by omega, by go_num, HE⟩
          case measure => simp [intOf]; omega
    · obtain rfl : M = 2 := by omega
      have HF := Lib.hid (HK.out.eq (show 4 + 2 * n.W = n.fs + 0 * n.q by unfold Gn.fs; omega))
      clear HK
      rw [show ((2 : Nat) : Int) = 2 from rfl]
      go_wp2
      go_loopw [4, 7, 8] (fun v t _ wr => ∃ T : Nat, T ≤ 2 * n.S ∧ t = .int .i64 (T : Int) ∧ Hid (Nums w2 wr v (n.fs + T * n.q) (ownN n))) (fun _ t _ _ => 2 * n.S - (intOf t).toNat)
      case atStart => exact ⟨0, Nat.zero_le _, rfl, HF⟩
      case round =>
        obtain ⟨T, hT, rfl, HT⟩ := hrel
        have hx := HT.out.gx HX2.out
        have y1 : wr.cell? ⟨H, 1, none⟩ = some (.int .i64 (n.S : Int)) := hx.x1
        clear hx
        by_cases hlt : T < 2 * n.S
        · have t1 : decide ((T : Int) < 2 * (n.S : Int)) = true := decide_eq_true (by omega)
          have t1' : decide (T < 2 * n.S) = true := decide_eq_true hlt
          go_wp2
          go_loopw [4, 8] (fun v x wr => ∃ x' : Nat, x' ≤ n.q ∧ x = .int .i64 (x' : Int) ∧ Hid (Nums w2 wr v (n.fs + T * n.q + x') (ownN n))) (fun _ x _ => n.q - (intOf x).toNat)
          case atStart => exact ⟨0, Nat.zero_le _, rfl, HT⟩
          case round =>
            obtain ⟨x, hx0, rfl, HS⟩ := hrel
            have hx := HS.out.gx HX2.out
            have y0 : wr.cell? ⟨H, 0, none⟩ = some (.int .i64 (n.W : Int)) := hx.x0
            have y2 : wr.cell? ⟨H, 2, none⟩ = some (.int .i64 (n.K : Int)) := hx.x2
            have y3 : wr.cell? ⟨H, 3, none⟩ = some (.int .i64 (n.M : Int)) := hx.x3
            clear hx
            have hxb : x ≤ 24 := by have := HN.out.q2; omega
            have hq : n.q = n.K + n.M := rfl
            by_cases hls : x < n.q
            · have t2 : decide ((x : Int) < (n.K : Int) + (n.M : Int)) = true := decide_eq_true (by omega)
              have t2' : decide (x < n.K + n.M) = true := decide_eq_true (by omega)
              have hmw := Gn.stripe_lt (n := n) (s := T) (p := x) hlt hls
              have h768 := HN.out.t2
              have hfs := HN.out.fs2
              obtain ⟨g, cap, w9, hrun, h9⟩ := HS.out.app (by omega)
              have HRUN := Lib.hid hrun
              have HEQ := Lib.hid (show 1 + (n.W : Int) + (T : Int) = ownN n (n.fs + T * n.q + x) from (own_stripes HN.out hlt hls).symm)
              have H9 := Lib.hid h9
              have HLS := Lib.hid hls
              clear hrun h9 hmw h768 hfs hls hq
              go_wp2_with (at_builtin; refine wpList_appI _ rfl (.tmp 45) (.tmp 51) rfl rfl _ _ (.slice (some ⟨g, 0, none⟩) (n.fs + T * n.q + x + 1) cap) w9 rfl rfl (HRUN.out _ HEQ.out) ?_)
              go_roundw
              case rel => exact ⟨x + 1, HLS.out, by go_num, H9⟩
              case measure =>
                have := HLS.out
                simp [intOf]
                omega
            · obtain rfl : x = n.q := by omega
              have HE := Lib.hid (HS.out.eq (show n.fs + T * n.q + n.q = n.fs + (T + 1) * n.q by rw [Nat.add_mul, Nat.one_mul, Nat.add_assoc]))
              have t2 : decide (((n.q : Nat) : Int) < (n.K : Int) + (n.M : Int)) = false := decide_eq_false (by omega)
              have t2' : decide (n.q < n.K + n.M) = false := decide_eq_false (by omega)
              clear HS hq
              go_wp2
              go_roundw
              case rel => exact ⟨T + 1, by omega, by go_num, HE⟩
              case measure => simp [intOf]; omega
        · obtain rfl : T = 2 * n.S := by omega
          have HP := Lib.hid (HT.out.eq (show n.fs + 2 * n.S * n.q = n.tot by unfold Gn.tot; rw [Nat.mul_assoc]))
          have t1 : decide (((2 * n.S : Nat) : Int) < 2 * (n.S : Int)) = false := decide_eq_false (by omega)
          clear HT
          go_wp2
          go_ret
          exact ⟨_, rfl, ownsRow_low HP.out.own HC2.out.size, HC2.out.trans HP.out.ch⟩
#print axioms owners_any
end Go.Proofs.Ytfbkfchibfiemaa
