/-
  The document's minor and Det, walked.
-/
import Derived.Test.YtpeidgochfcanaaLawB
import Derived.Test.YtpeidgochfcanaaDet
namespace Go.Proofs.Ytpeidgochfcanaa
open Go.RowKit
set_option linter.unusedVariables false

/-- How many rows of the first k are not row i. -/
def lessOne (i k : Nat) : Nat := if k ≤ i then k else k - 1
def RetMat (n m : Nat) (Z : Nat → Nat → Nat) (w : World) (e : Ending) (w' : World) : Prop := ∃ v, e = .returned v ∧ MatV w' v n (fun _ => m) Z ∧ Ch (fun _ => False) w w'
/-- A row without its first number. -/
theorem row_tail {w : World} {b o n C : Nat} {z : Nat → Nat} (hc : n + 1 ≤ C) (hb : n + 1 ≤ 140737488351232) (h : ∀ c, c < n + 1 → w.cell? ⟨b, o + c, none⟩ = some (.int .u8 (z c : Int)) ∧ z c < 256) : RowV w (.slice (if C = 1 then some ⟨b, o, none⟩ else some ⟨b, o + 1, none⟩) n (C - 1)) n (fun c => z (c + 1)) := by
  refine ⟨_, _, rfl, by omega, fun h0 => ⟨b, o + 1, if_neg (by omega), fun c hcl => ?_⟩⟩
  rw [show o + 1 + c = o + (c + 1) by omega]
  exact h (c + 1) (by omega)
theorem tail_block {b o C n q : Nat} (h : (Value.slice (if C = 1 then some ⟨b, o, none⟩ else some ⟨b, o + 1, none⟩) n (C - 1)).ownBlock = some q) : b = q := by
  by_cases e : C = 1
  · rw [if_pos e] at h; simpa [Value.ownBlock] using h
  · rw [if_neg e] at h; simpa [Value.ownBlock] using h
theorem lessOne_lt {i k : Nat} (h : k < i) : lessOne i k = k ∧ lessOne i (k + 1) = k + 1 := by unfold lessOne; rw [if_pos (by omega), if_pos (by omega)]; exact ⟨rfl, rfl⟩
theorem lessOne_gt {i k : Nat} (h : i < k) : lessOne i (k + 1) = lessOne i k + 1 ∧ skip i (lessOne i k) = k := by unfold lessOne skip; rw [if_neg (by omega), if_neg (by omega), if_neg (by omega)]; omega
theorem lessOne_eq (i : Nat) : lessOne i (i + 1) = lessOne i i := by unfold lessOne; rw [if_neg (by omega), if_pos (by omega)]; omega
theorem lessOne_skip {i k : Nat} (h : k ≠ i) : lessOne i (k + 1) = lessOne i k + 1 ∧ skip i (lessOne i k) = k := by
  by_cases q : k < i
  · have := lessOne_lt q
    refine ⟨by omega, ?_⟩
    rw [this.1]; unfold skip; rw [if_pos q]
  · exact lessOne_gt (by omega)
theorem lessOne_le (i k : Nat) : lessOne i k ≤ k := by unfold lessOne; split <;> omega

set_option maxHeartbeats 1600000 in
set_option maxRecDepth 100000 in
theorem minor_any (va : Value) (n i : Nat) (X : Nat → Nat → Nat) (w : World) (hn : n ≤ 64) (hi' : i < n + 1) (ha : MatV w va (n + 1) (fun _ => n + 1) X) : Calls Try.prog 38 #[va, .int .i64 (i : Int)] w (RetMat n n (minZ i X) w) := by
  obtain ⟨A, C, rfl, hAC, hA3⟩ := id ha
  obtain ⟨b, o, rfl, hrows⟩ := hA3 (by omega)
  have HR := Lib.hid hrows
  obtain ⟨i0, hi, hz0, hz1, hz2⟩ := info_parts Try.info24
  clear hA3 hrows ha
  go_enter Try.func38, Try.ntmps38
  go_wp2
  go_loopw [5, 6] (fun v t wr => ∃ k : Nat, k ≤ n + 1 ∧ t = .int .i64 k ∧ Ch (fun _ => False) w wr ∧ Bld w.heap.size wr v (lessOne i k) (fun _ => n) (minZ i X)) (fun _ t _ => n + 1 - (intOf t).toNat)
  case atStart => exact ⟨0, Nat.zero_le _, rfl, Ch.refl _ _, Bld.nil _ _ _ _⟩
  case round =>
    obtain ⟨k, hk, rfl, hch, hbld⟩ := hrel
    by_cases hlt : k < n + 1
    · have t0 : decide ((k : Int) < (n : Int) + 1) = true := by simp; omega
      by_cases hki : k = i
      · have b1 : ((k : Int) != (i : Int)) = false := by simp [hki]
        have HB := Lib.hid (show Bld w.heap.size wr u5 (lessOne i (k + 1)) (fun _ => n) (minZ i X) by rw [hki, lessOne_eq, ← hki]; rw [hki]; rw [hki] at hbld; exact hbld)
        clear hki hbld
        go_wp2
        go_roundw
        case rel => exact ⟨k + 1, by omega, by go_num, hch, HB⟩
        case measure => simp [intOf]; omega
      · have b1 : ((k : Int) != (i : Int)) = true := by simp; omega
        obtain ⟨x, cx, Ax, Cx, rfl, hcx, hx3⟩ := HR.out k hlt
        obtain ⟨bx, ox, rfl, hxc⟩ := hx3 (by omega)
        have c1 := hch.cell cx (fun f => f)
        obtain ⟨xs, ho, hrows⟩ := hbld
        have HL := Lib.hid (lessOne_skip hki)
        have hle := lessOne_le i k
        have hX0 := row_tail (w := wr) (C := Cx) hcx.2 hcx.1 (fun c hc => ⟨hch.cell (hxc c hc).1 (fun f => f), (hxc c hc).2⟩)
        have hbx : bx < w.heap.size := World.block_lt_of_cell? _ _ (hxc 0 (by omega)).1
        obtain ⟨y, hy⟩ : ∃ y, y = Value.slice (if Cx = 1 then some ⟨bx, ox, none⟩ else some ⟨bx, ox + 1, none⟩) n (Cx - 1) := ⟨_, rfl⟩
        have hX : RowV wr y n (minZ i X (lessOne i k)) := by
          rw [hy]
          have := hX0.congr (y := minZ i X (lessOne i k)) fun c _ => by unfold minZ; rw [HL.out.2]
          exact this
        have hXb : ∀ q, y.ownBlock = some q → q < wr.heap.size ∧ u5.ownBlock ≠ some q := fun q hq => by
          rw [hy] at hq
          have e := tail_block hq
          refine ⟨by have := hch.size; omega, fun z => ?_⟩
          have := (World.ownsRow.lt ho q z).1
          omega
        have HAP := Lib.hid (app_mk (x := y) ho hch.size (by rw [hy]; rfl) (by omega))
        have HX := Lib.hid hX
        have HXB := Lib.hid hXb
        have HO := Lib.hid ho
        have HRO := Lib.hid hrows
        have HCH := Lib.hid hch
        have HY := Lib.hid hy
        have HM2 := Lib.hid (show (lessOne i k + 1) * 24 ≤ 140737488355328 by omega)
        have hcx1 := hcx.2
        have hcx2 : (1 : Int) ≤ (Cx : Int) := by omega
        clear hX hXb ho hrows hch hX0 hxc hx3 cx hy hki
        go_wp2_with (at_builtin; rw [← HY.out]; refine wpList_append_lies _ rfl _ _ /-t-/22 rfl w.heap.size /-t-/24 i0 (.slice none 0 0) 1 24 Try.underlying22 hi hz0 hz1 hz2 rfl (by decide) u5 (lessOne i k) xs rfl HAP.out.o ⟨wr.heap.size, 0, none⟩ 1 1 [y] rfl rfl HAP.out.n HAP.out.c (by decide) HAP.out.m HM2.out HAP.out.b (wr.heap.size + 1) HAP.out.s ?_; intro g cap w1 h1 h2 h3 h4)
        have hnb : Bld w.heap.size w1 (.slice (some ⟨g, 0, none⟩) (lessOne i k + 1) cap) (lessOne i k + 1) (fun _ => n) (minZ i X) := Bld.more _ HO.out HRO.out HX.out HXB.out h1 h2 h3
        rw [← HL.out.1] at hnb
        have hnc : Ch (fun _ => False) w w1 := Bld.moreCh _ _ HCH.out HO.out (Nat.le_refl _) h2
        have EL := Lib.hid HL.out.1
        have HNB := Lib.hid hnb
        clear h1 h2 h3 h4 hnb
        go_wp2
        go_roundw
        case rel => exact ⟨k + 1, by omega, by go_num, hnc, by rw [← EL.out]; exact HNB.out⟩
        case measure => simp [intOf]; omega
    · have HE := Lib.hid (show lessOne i k = n by have : k = n + 1 := by omega
                                                  subst this; unfold lessOne; rw [if_neg (by omega)]; omega)
      have t0 : decide ((k : Int) < (n : Int) + 1) = false := by simp; omega
      have HM := Lib.hid (hbld.mat (by have := lessOne_le i k; omega))
      obtain ⟨A', C', rfl, _⟩ := id HM.out
      go_wp2
      go_ret
      exact ⟨_, rfl, by have := HM.out; rw [HE.out] at this; rw [HE.out]; exact this, hch⟩

/-! ### Det -/
def DetPost (n : Nat) (X : Nat → Nat → Nat) (w : World) (e : Ending) (w' : World) : Prop := e = .returned (.int .u8 (detZ n X : Int)) ∧ Ch (fun _ => False) w w'
def detTo (n : Nat) (X : Nat → Nat → Nat) (k : Nat) : Nat := xsum k (fun i => Gf.mul (X i 0) (detZ n (minZ i X)))
theorem detTo_lt (n : Nat) (X : Nat → Nat → Nat) (k : Nat) : detTo n X k < 256 := xsum_lt fun _ _ => Gf.mul_lt _ _
theorem detTo_zero {n : Nat} {X : Nat → Nat → Nat} {k : Nat} (h : X k 0 = 0) : detTo n X (k + 1) = detTo n X k := by
  show xr (detTo n X k) (Gf.mul (X k 0) _) = _
  rw [h, Gf.zero_mul, xr_z]
theorem detTo_succ {n : Nat} {X : Nat → Nat → Nat} {k : Nat} : detTo n X (k + 1) = xr (detTo n X k) (Gf.mul (X k 0) (detZ n (minZ k X))) := rfl
set_option maxHeartbeats 400000 in
theorem det_nil (va : Value) (X : Nat → Nat → Nat) (w : World) (ha : MatV w va 0 (fun _ => 0) X) : Calls Try.prog 21 #[va] w (DetPost 0 X w) := by
  obtain ⟨A, C, rfl⟩ := ha.none
  clear ha
  go_enter Try.func21, Try.ntmps21
  go_wp2
  go_ret
  exact ⟨rfl, Ch.refl _ _⟩
set_option maxHeartbeats 3200000 in
set_option maxRecDepth 100000 in
theorem det_more (n : Nat) (hn : n ≤ 63) (ih : ∀ (va : Value) (X : Nat → Nat → Nat) (w : World), MatV w va n (fun _ => n) X → Calls Try.prog 21 #[va] w (DetPost n X w)) (va : Value) (X : Nat → Nat → Nat) (w : World) (ha : MatV w va (n + 1) (fun _ => n + 1) X) : Calls Try.prog 21 #[va] w (DetPost (n + 1) X w) := by
  have IH := Lib.hid ih
  have HA := Lib.hid ha
  obtain ⟨A, C, rfl, hAC, hA3⟩ := id ha
  obtain ⟨b, o, rfl, hrows⟩ := hA3 (by omega)
  have HR := Lib.hid hrows
  have z0 : ((n : Int) + 1 == 0) = false := by rw [beq_eq_false_iff_ne]; omega
  clear ih ha hA3 hrows
  go_enter Try.func21, Try.ntmps21
  go_wp2
  go_loopw [3, 4, 5] (fun s t _ wr => ∃ k : Nat, k ≤ n + 1 ∧ t = .int .i64 k ∧ s = .int .u8 (detTo n X k : Int) ∧ Ch (fun _ => False) w wr) (fun _ t _ _ => n + 1 - (intOf t).toNat)
  case atStart => exact ⟨0, Nat.zero_le _, rfl, rfl, Ch.refl _ _⟩
  case round =>
    obtain ⟨k, hk, rfl, rfl, hch⟩ := hrel
    by_cases hlt : k < n + 1
    · have t0 : decide ((k : Int) < (n : Int) + 1) = true := by simp; omega
      obtain ⟨x, cx, Ax, Cx, rfl, hcx, hx3⟩ := HR.out k hlt
      obtain ⟨bx, ox, rfl, hxc⟩ := hx3 (by omega)
      have c1 := hch.cell cx (fun f => f)
      have c2 := hch.cell (hxc 0 (by omega)).1 (fun f => f)
      rw [Nat.add_zero] at c2
      have hx0 := (hxc 0 (by omega)).2
      by_cases hz : X k 0 = 0
      · have b1 : ((X k 0 : Int) == 0) = true := by simp [hz]
        have HS := Lib.hid (detTo_zero (n := n) hz)
        have n1 : 0 < n + 1 := by omega
        clear hz hx3 hxc cx
        go_wp2
        go_roundw
        case rel => exact ⟨k + 1, by omega, by go_num, by rw [HS.out], hch⟩
        case measure => simp [intOf]; omega
      · have b1 : ((X k 0 : Int) == 0) = false := by rw [beq_eq_false_iff_ne]; omega
        have n1 : 0 < n + 1 := by omega
        have i1 : (0 : Int) ≤ (k : Int) := Int.natCast_nonneg _
        have i2 : (k : Int) < (n : Int) + 1 := by omega
        have i3 : (0 : Int) < (n : Int) + 1 := by omega
        have hdl := det_lt n (minZ k X)
        have htl := detTo_lt n X k
        have hml := Gf.mul_lt (X k 0) (detZ n (minZ k X))
        have HAW := Lib.hid (HA.out.gr hch)
        have HCH := Lib.hid hch
        clear hz hx3 hxc cx hch
        go_wp2
        go_region_held3 (fun w' => w'.cell? ⟨b, o + k, none⟩ = some (.slice (some ⟨bx, ox, none⟩) (n + 1) Cx) ∧ w'.cell? ⟨bx, ox, none⟩ = some (.int .u8 (X k 0 : Int)))
          (first | go_keep | (exact ⟨hc2.cell c1 (fun f => f), hc2.cell c2 (fun f => f)⟩) | (exact ⟨hc3.cell (hc2.cell c1 (fun f => f)) (fun f => f), hc3.cell (hc2.cell c2 (fun f => f)) (fun f => f)⟩))
          (first | (go_at_call 38; refine (minor_any _ n k X _ (by omega) hlt (HAW.out.gr ((Ch.refl _ _).drew))).mono ?_; rintro e w2 ⟨v2, rfl, hM2, hc2⟩; obtain ⟨A2, C2, rfl, hh2, hg2⟩ := id hM2; clear hh2 hg2) | (go_at_call 21; refine (IH.out _ _ _ hM2).mono ?_; rintro e w3 ⟨rfl, hc3⟩) | (go_at_call 34; refine (rmul_any _ _ (by omega) (by omega) (by omega) (by omega) _).mono ?_; rintro e w4 ⟨rfl, rfl⟩))
        have hnc : Ch (fun _ => False) w w3 := (HCH.out.trans (((Ch.refl _ wr).drew).trans hc2)).trans hc3
        have HS := Lib.hid (detTo_succ (n := n) (X := X) (k := k))
        clear hc2 hc3 hM2
        go_wp2_with fail
        refine (radd_any _ _ (by omega) (by omega) (by omega) (by omega) _).mono ?_
        rintro e w5 ⟨rfl, rfl⟩
        rw [Int.toNat_natCast, Int.toNat_natCast, ← HS.out]
        go_wp2
        go_roundw
        case rel => exact ⟨k + 1, by omega, by go_num, rfl, hnc⟩
        case measure => simp [intOf]; omega
    · have HE := Lib.hid (show k = n + 1 by omega)
      have t0 : decide ((k : Int) < (n : Int) + 1) = false := by simp; omega
      go_wp2
      go_ret
      exact ⟨by rw [HE.out]; rfl, hch⟩
theorem det_any : ∀ (n : Nat), n ≤ 64 → ∀ (va : Value) (X : Nat → Nat → Nat) (w : World), MatV w va n (fun _ => n) X → Calls Try.prog 21 #[va] w (DetPost n X w)
  | 0, _ => det_nil
  | n + 1, hn => det_more n (by omega) (det_any n (by omega))
#print axioms minor_any
#print axioms det_any
end Go.Proofs.Ytpeidgochfcanaa
