/-
  GeoTells, walked.
-/
import Derived.Test.YtfbkfchibfiemaaGeoW
namespace Go.Proofs.Ytfbkfchibfiemaa
open Go.RowKit
set_option linter.unusedVariables false
set_option maxRecDepth 100000

theorem owners_len (g : Ge) (w : World) : Calls Try.prog 16 #[.agg (geC g)] w fun e w' => ∃ A C, e = .returned (.slice A (totG g).toNat C) ∧ Ch (fun _ => False) w w' := by
  cases t : mayG g
  · refine (owners_none g t w).mono ?_
    rintro e w' ⟨rfl, hc⟩
    exact ⟨none, 0, by rw [totG_no t]; rfl, hc⟩
  · obtain ⟨n, hn, rfl⟩ := may_nat t
    refine (owners_any n hn w).mono ?_
    rintro e w' ⟨v, rfl, ho, hc⟩
    obtain ⟨G, C, rfl⟩ := own_form ho (by unfold Gn.tot Gn.fs; omega)
    exact ⟨_, C, by rw [totG_ok hn, Int.toNat_natCast], hc⟩
theorem totG_nat (g : Ge) : totG g = (((totG g).toNat : Nat) : Int) := by
  cases t : mayG g
  · rw [totG_no t]; rfl
  · obtain ⟨n, hn, rfl⟩ := may_nat t
    rw [totG_ok hn, Int.toNat_natCast]
theorem room_law {g : Ge} (t : mayG g = true) : wrap64 (wrap64 (g.st * g.k) * 228) = roomG g := by
  obtain ⟨n, hn, rfl⟩ := may_nat t
  exact room_wrap hn
set_option maxHeartbeats 6400000 in
set_option maxRecDepth 100000 in
theorem geoTells_of (g : Ge) (i a : Int) (w : World) : Calls Try.prog 3 #[.agg (geC g), .int .i64 i, .int .i64 a] w (Told w) := by
  obtain ⟨w1, H, hR⟩ := geR w g
  have HR := Lib.hid hR
  have HX1 := Lib.hid hR.x
  clear hR
  have HW := Lib.hid (show whV g a = .tuple #[.int .i64 (whI g a), .int .i64 (whJ g a), .int .i64 (whE g a)] from rfl)
  obtain ⟨x, hx⟩ : ∃ x, x = whI g a := ⟨_, rfl⟩
  obtain ⟨y, hy⟩ : ∃ y, y = whJ g a := ⟨_, rfl⟩
  obtain ⟨z, hz⟩ : ∃ z, z = whE g a := ⟨_, rfl⟩
  rw [← hx, ← hy, ← hz] at HW
  clear hx hy hz
  have HTN := Lib.hid (totG_nat g)
  go_enter Try.func3, Try.ntmps3
  go_wp2_with ((with_reducible refine wpList_isOp (.box 23 (.tmp 0)) rfl ?_); refine wpList_boxing _ w1 rfl 23 (.tmp 0) rfl (geC g) H rfl (by exact HR.out.sz) (by exact HR.out.al) ?_)
  refine (gawake_any _).mono ?_
  rintro e w2 ⟨rfl, hc2⟩
  have HX2 := Lib.hid (HX1.out.gr hc2)
  have HC2 := Lib.hid (HR.out.ch.trans hc2)
  have hx := HX2.out
  obtain ⟨x0, x1, x2, x3⟩ := hx
  clear hc2
  go_wp2_with fail
  refine (where_any g a _).mono ?_
  rintro e w3 ⟨rfl, hc3⟩
  rw [HW.out]
  have HX3 := Lib.hid (HX2.out.gr hc3)
  have HC3 := Lib.hid (HC2.out.trans hc3)
  have hx := HX3.out
  obtain ⟨y0, y1, y2, y3⟩ := hx
  clear hc3 x0 x1 x2 x3
  go_wp2_with fail
  refine (rwhere_any g a _).mono ?_
  rintro e w4 ⟨rfl, hc4⟩
  rw [HW.out]
  have HX4 := Lib.hid (HX3.out.gr hc4)
  have HC4 := Lib.hid (HC3.out.trans hc4)
  have hx := HX4.out
  obtain ⟨x0, x1, x2, x3⟩ := hx
  have HCL := Lib.hid (cntG_le g i)
  obtain ⟨N, hN⟩ : ∃ N, N = cntG g i := ⟨_, rfl⟩
  have HN := Lib.hid hN
  rw [← hN] at HCL
  clear hc4 y0 y1 y2 y3 hN
  go_wp2
  go_region_held3 (fun w' => w'.cell? ⟨H, 0, none⟩ = some (.int .i64 (g).wal) ∧ w'.cell? ⟨H, 1, none⟩ = some (.int .i64 (g).st) ∧ w'.cell? ⟨H, 2, none⟩ = some (.int .i64 (g).k) ∧ w'.cell? ⟨H, 3, none⟩ = some (.int .i64 (g).m)) (first | go_keep | exact ka | exact kb | exact kc)
    (first
      | (go_at_call 11; refine (members_any g i _).mono ?_; rintro e w5 ⟨G, rfl, ho5, hc5⟩; rw [← HN.out] at ho5 ⊢; have HI5 := Lib.hid (own_intV ho5 (by have := HCL.out; omega)); have hx5 := HX4.out.drew.gr hc5; have ka := hx5.all; clear ho5)
      | (go_at_call 12; refine (rmembers_any g i _).mono ?_; rintro e w6 ⟨v6, rfl, hv6, hc6⟩; rw [← HN.out] at hv6; obtain ⟨A6, C6, rfl, _⟩ := hv6.len; have HI6 := Lib.hid hv6; have hx6 := hx5.gr hc6; have kb := hx6.all; clear hv6)
      | (go_at_call 10; refine (ints_any _ _ N N _ _ (secG g i) (secG g i) _ (HI5.out.gr hc6) HI6.out).mono ?_; rintro e w7 ⟨rfl, d7, hw7⟩; rw [eqI_self]; have hc7 : Ch (fun _ => False) w6 w7 := (by rw [hw7]; exact (Ch.refl _ w6).drewN d7); clear hw7; have hx7 := hx6.gr hc7; have kc := hx7.all))
  have HX7 := Lib.hid hx7
  have HC7 := Lib.hid (((HC4.out.drew.trans hc5).trans hc6).trans hc7)
  clear hx5 hx6 hx7 hc5 hc6 hc7 ka kb kc x0 x1 x2 x3
  have hx := HX7.out
  obtain ⟨x0, x1, x2, x3⟩ := hx
  go_wp2_with fail
  refine (rmay_any g _).mono ?_
  rintro e w8 ⟨rfl, hc8⟩
  have HX8 := Lib.hid (HX7.out.gr hc8)
  have HC8 := Lib.hid (HC7.out.trans hc8)
  have hx := HX8.out
  obtain ⟨y0, y1, y2, y3⟩ := hx
  clear hc8 x0 x1 x2 x3
  have HHT := Lib.hid (totG_nat g)
  obtain ⟨R, hRE⟩ : ∃ R, R = roomG g := ⟨_, rfl⟩
  have hcase : (mayG g = false ∧ Hid (roomG g = 0)) ∨ (mayG g = true ∧ Hid (roomG g = R)) := by
    cases t : mayG g
    · exact Or.inl ⟨rfl, roomG_no t⟩
    · exact Or.inr ⟨rfl, hRE.symm⟩
  have HRL := Lib.hid (fun (t : mayG g = true) => (room_law t).trans hRE.symm)
  have HCS := Lib.hid hcase
  clear hRE hcase
  rcases HCS.out with ⟨t1, HRE⟩ | ⟨t1, HRE⟩
  rotate_left
  go_wp2
  rw [HRL.out t1]
  rotate_left
  go_wp2
  all_goals (
    go_region_held3 (fun w' => w'.cell? ⟨H, 0, none⟩ = some (.int .i64 (g).wal) ∧ w'.cell? ⟨H, 1, none⟩ = some (.int .i64 (g).st) ∧ w'.cell? ⟨H, 2, none⟩ = some (.int .i64 (g).k) ∧ w'.cell? ⟨H, 3, none⟩ = some (.int .i64 (g).m)) (first | go_keep | exact k11 | exact k12 | exact k13 | exact k14 | exact k15 | exact k16 | exact k17 | exact k18)
      (first
        | (go_at_call 14; refine (gmay_any g _).mono ?_; rintro e w11 ⟨rfl, hc11⟩; rw [t1]; have hx11 := HX8.out.drew.gr hc11; have k11 := hx11.all)
        | (go_at_call 15; refine (sectors_any g _).mono ?_; rintro e w12 ⟨rfl, hc12⟩; rw [HTN.out]; have hx12 := hx11.gr hc12; have k12 := hx12.all)
        | (go_at_call 16; refine (owners_len g _).mono ?_; rintro e w13 ⟨A13, C13, rfl, hc13⟩; have hx13 := hx12.gr hc13; have k13 := hx13.all)
        | (go_at_call 17; refine (groups_any g _).mono ?_; rintro e w14 ⟨rfl, hc14⟩; have hx14 := hx13.gr hc14; have k14 := hx14.all)
        | (go_at_call 18; refine (rgroups_any g _).mono ?_; rintro e w15 ⟨rfl, hc15⟩; have hx15 := hx14.gr hc15; have k15 := hx15.all)
        | (go_at_call 19; refine (room_any g _).mono ?_; rintro e w16 ⟨rfl, hc16⟩; rw [HRE.out]; have hx16 := hx15.gr hc16; have k16 := hx16.all)
        | (go_at_call 20; refine (bears_any g i _).mono ?_; rintro e w17 ⟨rfl, hc17⟩; have hx17 := hx16.gr hc17; have k17 := hx17.all)
        | (go_at_call 21; refine (rbears_any g i _).mono ?_; rintro e w18 ⟨rfl, hc18⟩; have hx18 := hx17.gr hc18; have k18 := hx18.all))
    go_wp2
    go_ret
    exact ⟨rfl, ((((((((HC8.out.drew.trans hc11).trans hc12).trans hc13).trans hc14).trans hc15).trans hc16).trans hc17).trans hc18)⟩)
#print axioms geoTells_of
end Go.Proofs.Ytfbkfchibfiemaa
