/-
  The chapter's example of layer 8 (awake), walked.
-/
import Derived.Test.YtfbkfchibfiemaaGeoC
import Derived.Test.YtfbkfchibfiemaaGeoD
import Derived.Test.YtfbkfchibfiemaaGeoQ
namespace Go.Proofs.Ytfbkfchibfiemaa
open Go.RowKit
set_option linter.unusedVariables false
set_option maxRecDepth 100000

def exG : Ge := ⟨8, 1, 2, 1⟩
theorem ex_may : mayG exG = true := rfl
theorem ex_tot : totG exG = 26 := rfl
theorem ex_grp : grpG exG = 11 := rfl
theorem ex_room : roomG exG = 456 := rfl
theorem ex_where : whV exG 25 = .tuple #[.int .i64 10, .int .i64 2, .int .i64 0] := rfl
theorem ex_cnt1 : cntG exG 1 = 2 := rfl
theorem ex_cnt9 : cntG exG 9 = 3 := rfl
theorem ex_sec1 : secG exG 1 0 = 4 ∧ secG exG 1 1 = 12 := ⟨rfl, rfl⟩
theorem ex_sec9 : secG exG 9 0 = 20 ∧ secG exG 9 1 = 21 ∧ secG exG 9 2 = 22 := ⟨rfl, rfl, rfl⟩
def listI (l : List Int) (i : Nat) : Int := l.getD i 0
/-- Numbers that are written out. -/
theorem lit_intV (w : World) (l : List Int) (hl : l.length ≤ 1000) : IntV (w.alloc (.cells (l.map fun x => Value.int .i64 x).toArray /-t-/3)) (.slice (some ⟨w.heap.size, 0, none⟩) l.length l.length) l.length (listI l) := by
  refine ⟨_, _, rfl, by omega, fun h => ⟨_, 0, rfl, fun c hc => ?_⟩⟩
  rw [blk_cell (heap_alloc_new w _), Nat.zero_add, List.getElem?_toArray, List.getElem?_map]
  unfold listI
  rw [List.getElem?_eq_getElem hc, List.getD, List.getElem?_eq_getElem hc]
  rfl
theorem ex_one : eqI 2 2 (secG exG 1) (listI [4, 12]) = true := decide_eq_true ⟨rfl, fun c hc => by
  match c, hc with
  | 0, _ => exact ex_sec1.1
  | 1, _ => exact ex_sec1.2⟩
theorem ex_nine : eqI 3 3 (secG exG 9) (listI [20, 21, 22]) = true := decide_eq_true ⟨rfl, fun c hc => by
  match c, hc with
  | 0, _ => exact ex_sec9.1
  | 1, _ => exact ex_sec9.2.1
  | 2, _ => exact ex_sec9.2.2⟩
#print axioms ex_nine
theorem exX {w : World} {H : Nat} (h : GeX w H exG) : w.cell? ⟨H, 0, none⟩ = some (.int .i64 8) ∧ w.cell? ⟨H, 1, none⟩ = some (.int .i64 1) ∧ w.cell? ⟨H, 2, none⟩ = some (.int .i64 2) ∧ w.cell? ⟨H, 3, none⟩ = some (.int .i64 1) := ⟨h.x0, h.x1, h.x2, h.x3⟩
set_option maxHeartbeats 3200000 in
set_option maxRecDepth 100000 in
theorem gawake_any (w : World) : Calls Try.prog 7 #[] w (Told w) := by
  have HX := Lib.hid (show GeX (w.alloc (.cells (geC exG) 23)) w.heap.size exG from ⟨blk_cell (heap_alloc_new w _), blk_cell (heap_alloc_new w _), blk_cell (heap_alloc_new w _), blk_cell (heap_alloc_new w _)⟩)
  have HC1 := Lib.hid ((Ch.refl (fun _ => False) w).alloc (geC exG) 23)
  obtain ⟨H, hH⟩ : ∃ H, H = w.heap.size := ⟨_, rfl⟩
  have HH := Lib.hid hH
  rw [← hH] at HX
  clear hH
  go_enter Try.func7, Try.ntmps7
  go_wp2_with fail
  refine (where_any exG 25 _).mono ?_
  rintro e w2 ⟨rfl, hc2⟩
  rw [ex_where, ← HH.out]
  have HX2 := Lib.hid (GeX.gr HX.out hc2)
  have HC2 := Lib.hid (Ch.trans HC1.out hc2)
  have hx := exX HX2.out
  obtain ⟨x0, x1, x2, x3⟩ := hx
  clear hc2
  go_wp2_with fail
  refine (members_any exG 1 _).mono ?_
  rintro e w3 ⟨G, rfl, ho3, hc3⟩
  rw [ex_cnt1] at ho3 ⊢
  have HI3 := Lib.hid (own_intV ho3 (by omega))
  have HX3 := Lib.hid (GeX.gr HX2.out hc3)
  have HC3 := Lib.hid (Ch.trans HC2.out hc3)
  clear hc3 ho3 x0 x1 x2 x3
  go_wp2_with fail
  refine (ints_any _ _ 2 2 2 2 (secG exG 1) (listI [4, 12]) _ (HI3.out.gr ((Ch.refl _ w3).alloc _ _)) (lit_intV w3 [4, 12] (by decide))).mono ?_
  rintro e w4 ⟨rfl, d, hw4⟩
  rw [ex_one]
  have hc4 : Ch (fun _ => False) w3 w4 := by rw [hw4]; exact ((Ch.refl _ w3).alloc _ _).drewN d
  have HX4 := Lib.hid (GeX.gr HX3.out hc4)
  have HC4 := Lib.hid (Ch.trans HC3.out hc4)
  have hx := exX HX4.out
  obtain ⟨x0, x1, x2, x3⟩ := hx
  clear hc4 hw4
  go_wp2_with fail
  refine (members_any exG 9 _).mono ?_
  rintro e w5 ⟨G5, rfl, ho5, hc5⟩
  rw [ex_cnt9] at ho5 ⊢
  have HI5 := Lib.hid (own_intV ho5 (by omega))
  have HX5 := Lib.hid (GeX.gr HX4.out hc5)
  have HC5 := Lib.hid (Ch.trans HC4.out hc5)
  clear hc5 ho5 x0 x1 x2 x3
  go_wp2_with fail
  refine (ints_any _ _ 3 3 3 3 (secG exG 9) (listI [20, 21, 22]) _ (HI5.out.gr ((Ch.refl _ w5).alloc _ _)) (lit_intV w5 [20, 21, 22] (by decide))).mono ?_
  rintro e w6 ⟨rfl, d6, hw6⟩
  rw [ex_nine]
  have hc6 : Ch (fun _ => False) w5 w6 := by rw [hw6]; exact ((Ch.refl _ w5).alloc _ _).drewN d6
  have HX6 := Lib.hid (GeX.gr HX5.out hc6)
  have HC6 := Lib.hid (Ch.trans HC5.out hc6)
  have hx := exX HX6.out
  obtain ⟨x0, x1, x2, x3⟩ := hx
  clear hc6 hw6
  go_wp2_with fail
  refine (gmay_any exG _).mono ?_
  rintro e w7 ⟨rfl, hc7⟩
  rw [ex_may]
  have HX7 := Lib.hid (GeX.gr HX6.out hc7)
  have HC7 := Lib.hid (Ch.trans HC6.out hc7)
  have hx := exX HX7.out
  obtain ⟨y0, y1, y2, y3⟩ := hx
  clear hc7 x0 x1 x2 x3
  go_wp2_with fail
  refine (sectors_any exG _).mono ?_
  rintro e w8 ⟨rfl, hc8⟩
  rw [ex_tot]
  have HX8 := Lib.hid (GeX.gr HX7.out hc8)
  have HC8 := Lib.hid (Ch.trans HC7.out hc8)
  have hx := exX HX8.out
  obtain ⟨x0, x1, x2, x3⟩ := hx
  clear hc8 y0 y1 y2 y3
  go_wp2_with fail
  refine (groups_any exG _).mono ?_
  rintro e w9 ⟨rfl, hc9⟩
  rw [ex_grp]
  have HX9 := Lib.hid (GeX.gr HX8.out hc9)
  have HC9 := Lib.hid (Ch.trans HC8.out hc9)
  have hx := exX HX9.out
  obtain ⟨y0, y1, y2, y3⟩ := hx
  clear hc9 x0 x1 x2 x3
  go_wp2_with fail
  refine (room_any exG _).mono ?_
  rintro e w10 ⟨rfl, hc10⟩
  rw [ex_room]
  go_wp2
  go_ret
  exact ⟨rfl, Ch.trans HC9.out hc10⟩
#print axioms gawake_any
end Go.Proofs.Ytfbkfchibfiemaa
