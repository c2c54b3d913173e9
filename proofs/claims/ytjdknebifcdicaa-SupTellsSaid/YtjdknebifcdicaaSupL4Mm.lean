/-
  SupTells, walked.
-/
import Derived.Test.YtjdknebifcdicaaMg32
import Derived.Test.YtjdknebifcdicaaMg36
import Derived.Test.YtjdknebifcdicaaMg18
import Derived.Deep.RegionHeld3
namespace Go.Proofs.Ytjdknebifcdicaa
open Go.RowKit
set_option linter.unusedVariables false
set_option maxRecDepth 100000
attribute [local go_sem] guard_su

/-- Three stand in variables. -/
def SuX3 (w : World) (P Q H : Nat) (u x : Sp) : Prop := (fun w' => w'.cell? ⟨P, 0, none⟩ = some (.int .i64 u.vol) ∧ w'.cell? ⟨P, 1, none⟩ = some (.int .i64 u.gen) ∧ w'.cell? ⟨P, 2, none⟩ = some (.int .i64 u.ep) ∧ w'.cell? ⟨P, 3, none⟩ = some (.int .i64 u.area) ∧ w'.cell? ⟨P, 4, none⟩ = some (.int .i64 u.snap) ∧ w'.cell? ⟨P, 5, none⟩ = some (.int .i64 u.long) ∧ w'.cell? ⟨P, 6, none⟩ = some (.int .i64 u.start) ∧ w'.cell? ⟨P, 7, none⟩ = some (.int .i64 u.chain) ∧ w'.cell? ⟨P, 8, none⟩ = some (.int .i64 u.g.wal) ∧ w'.cell? ⟨P, 9, none⟩ = some (.int .i64 u.g.st) ∧ w'.cell? ⟨P, 10, none⟩ = some (.int .i64 u.g.k) ∧ w'.cell? ⟨P, 11, none⟩ = some (.int .i64 u.g.m) ∧ w'.cell? ⟨Q, 0, none⟩ = some (.int .i64 u.vol) ∧ w'.cell? ⟨Q, 1, none⟩ = some (.int .i64 u.gen) ∧ w'.cell? ⟨Q, 2, none⟩ = some (.int .i64 u.ep) ∧ w'.cell? ⟨Q, 3, none⟩ = some (.int .i64 u.area) ∧ w'.cell? ⟨Q, 4, none⟩ = some (.int .i64 u.snap) ∧ w'.cell? ⟨Q, 5, none⟩ = some (.int .i64 u.long) ∧ w'.cell? ⟨Q, 6, none⟩ = some (.int .i64 u.start) ∧ w'.cell? ⟨Q, 7, none⟩ = some (.int .i64 u.chain) ∧ w'.cell? ⟨Q, 8, none⟩ = some (.int .i64 u.g.wal) ∧ w'.cell? ⟨Q, 9, none⟩ = some (.int .i64 u.g.st) ∧ w'.cell? ⟨Q, 10, none⟩ = some (.int .i64 u.g.k) ∧ w'.cell? ⟨Q, 11, none⟩ = some (.int .i64 u.g.m) ∧ w'.cell? ⟨H, 0, none⟩ = some (.int .i64 x.vol) ∧ w'.cell? ⟨H, 1, none⟩ = some (.int .i64 x.gen) ∧ w'.cell? ⟨H, 2, none⟩ = some (.int .i64 x.ep) ∧ w'.cell? ⟨H, 3, none⟩ = some (.int .i64 x.area) ∧ w'.cell? ⟨H, 4, none⟩ = some (.int .i64 x.snap) ∧ w'.cell? ⟨H, 5, none⟩ = some (.int .i64 x.long) ∧ w'.cell? ⟨H, 6, none⟩ = some (.int .i64 x.start) ∧ w'.cell? ⟨H, 7, none⟩ = some (.int .i64 x.chain) ∧ w'.cell? ⟨H, 8, none⟩ = some (.int .i64 x.g.wal) ∧ w'.cell? ⟨H, 9, none⟩ = some (.int .i64 x.g.st) ∧ w'.cell? ⟨H, 10, none⟩ = some (.int .i64 x.g.k) ∧ w'.cell? ⟨H, 11, none⟩ = some (.int .i64 x.g.m)) w
theorem suX3 {w : World} {P Q H : Nat} {u x : Sp} (h1 : SuX w P u) (h2 : SuX w Q u) (h3 : SuX w H x) : SuX3 w P Q H u x := by
  obtain ⟨a0, a1, a2, a3, a4, a5, a6, a7, a8, a9, a10, a11⟩ := h1
  obtain ⟨b0, b1, b2, b3, b4, b5, b6, b7, b8, b9, b10, b11⟩ := h2
  obtain ⟨c0, c1, c2, c3, c4, c5, c6, c7, c8, c9, c10, c11⟩ := h3
  exact ⟨a0, a1, a2, a3, a4, a5, a6, a7, a8, a9, a10, a11, b0, b1, b2, b3, b4, b5, b6, b7, b8, b9, b10, b11, c0, c1, c2, c3, c4, c5, c6, c7, c8, c9, c10, c11⟩
set_option maxHeartbeats 12800000 in
theorem supTells_of (x : Sp) (i : Int) (v : Value) (w : World) {n : Nat} {z : Nat → Nat} (hi : -9223372036854775808 ≤ i ∧ i ≤ 9223372036854775807) (hR : RowV w v n z) : Calls Try.prog 3 #[.agg (supC x), .int .i64 i, v] w (Told w) := by
  obtain ⟨A, C, rfl, hle, _⟩ := id hR
  obtain ⟨w1, H, hB⟩ := boxR w (supC x) 25
  have HX1 := Lib.hid hB.cx
  have HV1 := Lib.hid (hR.gr hB.ch)
  have HR := Lib.hid hB
  clear hR hB hle hi
  go_enter Try.func3, Try.ntmps3
  go_wp2_with ((with_reducible refine wpList_isOp (.box 25 (.tmp 0)) rfl ?_); refine wpList_boxing _ w1 rfl 25 (.tmp 0) rfl (supC x) H rfl (by exact HR.out.sz) (by exact HR.out.al) ?_)
  refine (awake_any _).mono ?_
  rintro e w2 ⟨rfl, hc2⟩
  have HC2 := Lib.hid hc2
  have HX2 := Lib.hid ((hc2.block H (blk_lt (o := .cells (supC x) 25 (0, 0)) HX1.out) (fun f => f)).trans HX1.out)
  have HL2 := Lib.hid (load_su HX2.out)
  clear hc2
  by_cases hn : 600 < n
  · have t1 : (600 : Int) < (n : Int) := by omega
    clear hn
    go_wp2
    go_ret
    exact ⟨rfl, HR.out.ch.trans HC2.out⟩
  have t1 : ¬ (600 : Int) < (n : Int) := by omega
  clear hn
  go_wp2_with (first | ((with_reducible refine wpList_isOp (.load 25 (.tmp 3)) rfl ?_); refine wpList_loading _ rfl 25 (.tmp 3) rfl (.agg (supC x)) ⟨H, 0, none⟩ rfl (by exact HL2.out) ?_) | fail)
  clear t1
  refine (ssector_any x i _).mono ?_
  rintro e w3 ⟨A3, C3, rfl, ho3, hc3⟩
  have HX3 := Lib.hid ((hc3.block H (blk_lt (o := .cells (supC x) 25 (0, 0)) HX2.out) (fun f => f)).trans HX2.out)
  have HL3 := Lib.hid (load_su HX3.out)
  have HC3 := Lib.hid (HC2.out.trans hc3)
  have HR3 := Lib.hid (ownsRow_rowV ho3 (by unfold secN; split <;> omega) (sectS_b _))
  clear ho3 hc3
  go_wp2_with (first | ((with_reducible refine wpList_isOp (.load 25 (.tmp 3)) rfl ?_); refine wpList_loading _ rfl 25 (.tmp 3) rfl (.agg (supC x)) ⟨H, 0, none⟩ rfl (by exact HL3.out) ?_) | fail)
  refine (rsecS_any x i _).mono ?_
  rintro e w4 ⟨A4, C4, rfl, ho4, hc4⟩
  have HX4 := Lib.hid ((hc4.block H (blk_lt (o := .cells (supC x) 25 (0, 0)) HX3.out) (fun f => f)).trans HX3.out)
  have HC4 := Lib.hid (HC3.out.trans hc4)
  have HR4 := Lib.hid (ownsRow_rowV ho4 (by unfold secN; split <;> omega) (sectS_b _))
  have HR34 := Lib.hid (HR3.out.gr hc4)
  obtain ⟨E, hE⟩ : ∃ E, E = secE x i := ⟨_, rfl⟩
  rw [← hE]
  clear ho4 hc4 hE
  go_wp2_with fail
  refine (same_any _ _ _ _ _ _ _ _ _ HR34.out HR4.out).mono ?_
  rintro e w5 ⟨rfl, dd, hw5⟩
  have hc5 : Ch (fun _ => False) w4 w5 := by rw [hw5]; exact (Ch.refl _ w4).drewN dd
  have HC5 := Lib.hid (HC4.out.trans hc5)
  have HV5 := Lib.hid (HV1.out.gr HC5.out)
  have HX5 := Lib.hid ((hc5.block H (blk_lt (o := .cells (supC x) 25 (0, 0)) HX4.out) (fun f => f)).trans HX4.out)
  rw [show eqB (secN x i) (secN x i) (sectS x i) (sectS x i) = true from eqB_yes rfl (fun _ _ => rfl)]
  clear hw5 hc5
  go_wp2_with fail
  refine (stold_any A n C z i _ HV5.out).mono ?_
  rintro e w6 ⟨o, hto, rfl, hc6⟩
  obtain ⟨u, hu⟩ : ∃ u, u = optS o := ⟨_, rfl⟩
  obtain ⟨q, hq⟩ : ∃ q, q = o.isSome := ⟨_, rfl⟩
  rw [← hu, ← hq]
  obtain ⟨wz7, w7, P, hV7⟩ := varS u w6
  have HC7 := Lib.hid ((HC5.out.trans hc6).trans hV7.ch)
  have HV7 := Lib.hid hV7
  have HVV := Lib.hid (HV1.out.gr HC7.out)
  have HX7 := Lib.hid (((hc6.trans hV7.ch).block H (blk_lt (o := .cells (supC x) 25 (0, 0)) HX5.out) (fun f => f)).trans HX5.out)
  have HTO := Lib.hid hto
  have HU := Lib.hid hu
  have HQ := Lib.hid hq
  clear hto hc6 hV7 hu hq
  go_wp2_with (first
    | ((with_reducible refine wpList_isOp (.alloc 25) rfl ?_); refine wpList_making _ wz7 rfl 25 rfl (supC sp0) P (zero_su _) (by exact HV7.out.sz) (by exact HV7.out.al) ?_)
    | ((with_reducible refine wpList_isOp (.store 25 (.tmp 13) (.tmp 45)) rfl ?_); refine wpList_storing _ w7 rfl 25 (.tmp 13) (.tmp 45) rfl (.agg (supC u)) ⟨P, 0, none⟩ rfl rfl (by exact HV7.out.st) ?_)
    | fail)
  refine (rtold_any A n C z i _ HVV.out).mono ?_
  rintro e w8 ⟨o', hto', rfl, hc8⟩
  obtain rfl := tell_one HTO.out hto'
  rw [← HU.out, ← HQ.out]
  obtain ⟨wz9, w9, Q, hV9⟩ := varS u w8
  have hc9 := hc8.trans hV9.ch
  have HC9 := Lib.hid (HC7.out.trans hc9)
  have HS9 := Lib.hid (suX3 (su_x ((hc9.block P (blk_lt (o := .cells (supC u) 25 (0, 0)) HV7.out.cx) (fun f => f)).trans HV7.out.cx)) (su_x hV9.cx) (su_x ((hc9.block H (blk_lt (o := .cells (supC x) 25 (0, 0)) HX7.out) (fun f => f)).trans HX7.out)))
  have HGR := Lib.hid (fun (w' : World) (k : Ch (fun _ => False) w9 w') => suX3 ((su_x ((hc9.block P (blk_lt (o := .cells (supC u) 25 (0, 0)) HV7.out.cx) (fun f => f)).trans HV7.out.cx)).gr k) ((su_x hV9.cx).gr k) ((su_x ((hc9.block H (blk_lt (o := .cells (supC x) 25 (0, 0)) HX7.out) (fun f => f)).trans HX7.out)).gr k))
  have HV9 := Lib.hid hV9
  have HDR := Lib.hid ((Ch.refl (fun _ => False) w9).drew)
  clear hto' hc8 hV9 hc9
  go_wp2_with (first
    | ((with_reducible refine wpList_isOp (.alloc 25) rfl ?_); refine wpList_making _ wz9 rfl 25 rfl (supC sp0) Q (zero_su _) (by exact HV9.out.sz) (by exact HV9.out.al) ?_)
    | ((with_reducible refine wpList_isOp (.store 25 (.tmp 15) (.tmp 51)) rfl ?_); refine wpList_storing _ w9 rfl 25 (.tmp 15) (.tmp 51) rfl (.agg (supC u)) ⟨Q, 0, none⟩ rfl rfl (by exact HV9.out.st) ?_)
    | fail)
  go_region_held3 (fun w' => w'.cell? ⟨P, 0, none⟩ = some (.int .i64 u.vol) ∧ w'.cell? ⟨P, 1, none⟩ = some (.int .i64 u.gen) ∧ w'.cell? ⟨P, 2, none⟩ = some (.int .i64 u.ep) ∧ w'.cell? ⟨P, 3, none⟩ = some (.int .i64 u.area) ∧ w'.cell? ⟨P, 4, none⟩ = some (.int .i64 u.snap) ∧ w'.cell? ⟨P, 5, none⟩ = some (.int .i64 u.long) ∧ w'.cell? ⟨P, 6, none⟩ = some (.int .i64 u.start) ∧ w'.cell? ⟨P, 7, none⟩ = some (.int .i64 u.chain) ∧ w'.cell? ⟨P, 8, none⟩ = some (.int .i64 u.g.wal) ∧ w'.cell? ⟨P, 9, none⟩ = some (.int .i64 u.g.st) ∧ w'.cell? ⟨P, 10, none⟩ = some (.int .i64 u.g.k) ∧ w'.cell? ⟨P, 11, none⟩ = some (.int .i64 u.g.m) ∧ w'.cell? ⟨Q, 0, none⟩ = some (.int .i64 u.vol) ∧ w'.cell? ⟨Q, 1, none⟩ = some (.int .i64 u.gen) ∧ w'.cell? ⟨Q, 2, none⟩ = some (.int .i64 u.ep) ∧ w'.cell? ⟨Q, 3, none⟩ = some (.int .i64 u.area) ∧ w'.cell? ⟨Q, 4, none⟩ = some (.int .i64 u.snap) ∧ w'.cell? ⟨Q, 5, none⟩ = some (.int .i64 u.long) ∧ w'.cell? ⟨Q, 6, none⟩ = some (.int .i64 u.start) ∧ w'.cell? ⟨Q, 7, none⟩ = some (.int .i64 u.chain) ∧ w'.cell? ⟨Q, 8, none⟩ = some (.int .i64 u.g.wal) ∧ w'.cell? ⟨Q, 9, none⟩ = some (.int .i64 u.g.st) ∧ w'.cell? ⟨Q, 10, none⟩ = some (.int .i64 u.g.k) ∧ w'.cell? ⟨Q, 11, none⟩ = some (.int .i64 u.g.m) ∧ w'.cell? ⟨H, 0, none⟩ = some (.int .i64 x.vol) ∧ w'.cell? ⟨H, 1, none⟩ = some (.int .i64 x.gen) ∧ w'.cell? ⟨H, 2, none⟩ = some (.int .i64 x.ep) ∧ w'.cell? ⟨H, 3, none⟩ = some (.int .i64 x.area) ∧ w'.cell? ⟨H, 4, none⟩ = some (.int .i64 x.snap) ∧ w'.cell? ⟨H, 5, none⟩ = some (.int .i64 x.long) ∧ w'.cell? ⟨H, 6, none⟩ = some (.int .i64 x.start) ∧ w'.cell? ⟨H, 7, none⟩ = some (.int .i64 x.chain) ∧ w'.cell? ⟨H, 8, none⟩ = some (.int .i64 x.g.wal) ∧ w'.cell? ⟨H, 9, none⟩ = some (.int .i64 x.g.st) ∧ w'.cell? ⟨H, 10, none⟩ = some (.int .i64 x.g.k) ∧ w'.cell? ⟨H, 11, none⟩ = some (.int .i64 x.g.m)) (first | exact kb | exact ka | exact HGR.out _ HDR.out | go_keep)
    (first
      | (go_at_call 14; refine (smay_any x _).mono ?_; rintro e w10 ⟨rfl, hc10⟩; have ka := HGR.out _ (HDR.out.trans hc10))
      | (go_at_call 15; refine (rmayS_any x _).mono ?_; rintro e w11 ⟨rfl, hc11⟩; have kb := HGR.out _ ((HDR.out.trans hc10).trans hc11)))
  go_wp2
  go_ret
  exact ⟨rfl, ((((HR.out.ch.trans HC9.out).trans HDR.out).trans hc10).trans hc11)⟩
#print axioms supTells_of
end Go.Proofs.Ytjdknebifcdicaa
