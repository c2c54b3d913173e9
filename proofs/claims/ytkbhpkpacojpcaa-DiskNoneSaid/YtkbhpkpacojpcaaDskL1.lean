/-
  DiskNone, walked: a nil device has nothing, and is dead; what is handed in, and answered, stays.
-/
import Derived.Test.YtkbhpkpacojpcaaDskW
namespace Go.Proofs.Ytkbhpkpacojpcaa
open Go.RowKit
set_option linter.unusedVariables false

set_option maxHeartbeats 400000 in
theorem read_nil (a : Int) (w : World) : Calls Try.prog 21 #[.pointer none, .int .i64 a] w fun e w' => e = .returned (.tuple #[.slice none 0 0, .int .i64 21]) ∧ w = w' := by
  go_enter Try.func21, Try.ntmps21
  go_wp2_with fail
  refine (open_nil _ _).mono ?_
  rintro e w1 ⟨rfl, rfl⟩
  go_wp2
  go_ret2
  exact ⟨rfl, rfl⟩
set_option maxHeartbeats 400000 in
theorem write_nil (a : Int) (v : Value) (w : World) : Calls Try.prog 15 #[.pointer none, .int .i64 a, v] w fun e w' => e = .returned (.int .i64 21) ∧ w = w' := by
  go_enter Try.func15, Try.ntmps15
  go_wp2_with fail
  refine (open_nil _ _).mono ?_
  rintro e w1 ⟨rfl, rfl⟩
  go_wp2
  go_ret
  exact ⟨rfl, rfl⟩
set_option maxHeartbeats 400000 in
theorem copy_nil (w : World) : Calls Try.prog 20 #[.pointer none] w fun e w' => e = .returned (.pointer none) ∧ w = w' := by
  go_enter Try.func20, Try.ntmps20
  go_wp2
  go_ret
  exact ⟨rfl, rfl⟩
def noneF (a : Int) : Fa := ⟨3, a, 0, 0, 0, 0, 0, 0, 0⟩
theorem none_far {base : Nat} {w1 w2 w3 : World} {p p3 : Ph} {d d3 : Dev} {bs : Nat} (h : DevIs base w1 p d) (hb : w1.heap.size ≤ bs) (hc : Ch (fun _ => False) w1 w2) (h2 : bs < w2.heap.size) (h3 : DevIs base w3 p3 d3) (hf : ∀ i, Foot p3 d3 i → Foot p d i ∨ w2.heap.size ≤ i) : ¬ Foot p3 d3 bs := fun q => by
  rcases hf bs q with q | q
  · have := (h.foot q).2; omega
  · omega
set_option maxHeartbeats 3200000 in
set_option maxRecDepth 100000 in
theorem diskNone_any (a : Int) (b : Nat) (hb : b < 256) (w : World) : Calls Try.prog 7 #[.int .i64 a, .int .u8 (b : Int)] w (Told w) := by
  go_enter Try.func7, Try.ntmps7
  go_wp2_with fail
  refine (awake_any _).mono ?_
  rintro e w1 ⟨rfl, hc1⟩
  have HC1 := Lib.hid hc1
  clear hc1
  go_wp2_with fail
  refine (read_nil _ _).mono ?_
  rintro e w2 ⟨rfl, rfl⟩
  go_wp2_with fail
  refine (sector_any b hb _).mono ?_
  rintro e w2 ⟨b2, rfl, _, _, hc2⟩
  have HC2 := Lib.hid (HC1.out.trans hc2)
  clear hc2 HC1
  go_wp2_with fail
  refine (write_nil _ _ _).mono ?_
  rintro e w3 ⟨rfl, rfl⟩
  go_wp2_with fail
  refine (flush_nil _).mono ?_
  rintro e w3 ⟨rfl, rfl⟩
  go_wp2_with fail
  refine (show Calls Try.prog _ #[_, .agg (faC (noneF a))] _ _ from fault_nil (noneF a) _).mono ?_
  rintro e w3 ⟨rfl, hc3⟩
  have HC3 := Lib.hid (HC2.out.trans hc3)
  clear hc3 HC2
  go_wp2_with fail
  refine (arm_nil _ _).mono ?_
  rintro e w4 ⟨rfl, rfl⟩
  go_wp2_with fail
  refine (crash_nil _ _).mono ?_
  rintro e w4 ⟨rfl, rfl⟩
  go_wp2_with fail
  refine (show Calls Try.prog _ #[.int .i64 3] _ _ from new_any 3 w3 (by omega) (by omega)).mono ?_
  rintro e w5 ⟨p, rfl, h5, hc5⟩
  have H5 := Lib.hid h5
  have HC5 := Lib.hid (HC3.out.trans hc5)
  have HB5 := Lib.hid (HC3.out.size)
  have HBW := Lib.hid (HC3.out.size)
  clear h5 hc5 HC3
  go_wp2_with fail
  refine (sector_any b hb _).mono ?_
  rintro e w6 ⟨bs, rfl, h6, hb6, hc6⟩
  have hfar : ¬ Foot p (dev0 3) bs := fun q => by have := (H5.out.foot q).2; omega
  have HW := Lib.hid (write_any _ p (dev0 3) 1 bs 0 256 256 (fun _ => b) w6 (H5.out.gr hc6) (rowIs_rowV h6 (by omega) (fun _ _ => hb)) hfar (by decide) (by decide) (fun _ => Nat.zero_le _))
  have H6 := Lib.hid h6
  have HC6 := Lib.hid hc6
  have HF6 := Lib.hid hfar
  have HB6 := Lib.hid hb6
  clear h6 hb6 hc6 hfar
  go_wp2_with fail
  refine HW.out.mono ?_
  rintro e w7 ⟨rfl, p7, hp7, h7, hf7, hc7⟩
  have h7' : DevIs w3.heap.size w7 p7 { dev0 3 with ops := 1, W := [⟨1, fun _ => b⟩] } := h7
  have hf7' : ¬ Foot p7 { dev0 3 with ops := 1, W := [⟨1, fun _ => b⟩] } bs := none_far H5.out HB6.out HC6.out H6.out.lt h7' hf7
  obtain ⟨D, hD⟩ : ∃ D : Dev, D = { dev0 3 with ops := 1, W := [⟨1, fun _ => b⟩] } := ⟨_, rfl⟩
  rw [← hD] at h7' hf7'
  have HD := Lib.hid hD
  have hr7 := hc7.rowIs H6.out HF6.out
  have s0 := hr7.cell (show 0 < 256 by omega)
  have fs0 := hr7.frozen 0
  have k7 : Ch (fun _ => False) w w7 := (HC5.out.trans HC6.out).new (hc7.mono fun i _ hi => Nat.le_trans HB5.out ((H5.out.foot hi).1))
  have HS : Hid (∀ v, DevIs w3.heap.size (w7.setCell ⟨bs, 0, none⟩ v) p7 D ∧ Ch (fun _ => False) w (w7.setCell ⟨bs, 0, none⟩ v)) := fun v =>
    ⟨h7'.ch (Ch.setCell (S := fun i => i = bs) (Ch.refl _ w7) (p := ⟨bs, 0, none⟩) (Or.inl rfl) v) (fun i hi e => hf7' (e ▸ hi)), k7.setCell (p := ⟨bs, 0, none⟩) (Or.inr (Nat.le_trans HC5.out.size HB6.out)) v⟩
  rw [← hp7]
  clear h7 h7' hf7 hf7' hc7 hr7 k7 hD HW H5 HC6 HF6 H6 HC5 hp7 HB6
  go_wp2_with fail
  refine (show Calls Try.prog _ #[_, .int .i64 1] _ _ from read_any _ p7 D 1 _ (HS.out _).1 (by rw [HD.out]; exact (by decide : 1 ≤ 1152921504606846976)) (by rw [HD.out]; exact (by decide : 1 ≤ 1048576))).mono ?_
  rintro e w8 ⟨v, rfl, h8, hv8, hc8⟩
  have e8 : readL D 1 = 256 ∧ readE D 1 = 0 ∧ readZ D 1 = (fun _ => b) ∧ readD D 1 = { dev0 3 with ops := 2, W := [⟨1, fun _ => b⟩] } := by rw [HD.out]; exact ⟨rfl, rfl, rfl, rfl⟩
  rw [e8.1, e8.2.2.1] at hv8
  rw [e8.2.2.2] at h8
  rw [e8.2.1]
  obtain ⟨g, cap, rfl, hbg, hglt⟩ := World.ownsRow.form hv8 (by omega)
  have t9 := World.ownsRow.cells hv8 (g := g) rfl 9 _ (bytesL_get (show 9 < 256 by omega))
  rw [add_pl] at t9
  have ft9 : w8.frozen? ⟨g, 9, none⟩ = false := by
    obtain ⟨_, c, hc⟩ := own_at hv8 rfl
    exact blk_frozen hc
  obtain ⟨D2, hD2⟩ : ∃ D2 : Dev, D2 = { dev0 3 with ops := 2, W := [⟨1, fun _ => b⟩] } := ⟨_, rfl⟩
  have hn2 : D2.n = D.n := by rw [hD2, HD.out]
  rw [← hD2] at h8
  have hg8 : ¬ Foot p7 D2 g := fun q => by
    have := ((HS.out (.int .u8 0)).1.foot ((foot_n hn2).1 q)).2
    have h2 : (w7.setCell ⟨bs, 0, none⟩ (.int .u8 0)).heap.size = w7.heap.size := by simp [World.setCell]
    simp [World.setCell] at hbg this
    omega
  have k8 : Ch (fun _ => False) w w8 := (HS.out _).2.new (hc8.mono fun i _ hi => by
    have := ((HS.out (.int .u8 0)).1.foot hi).1
    exact Nat.le_trans HBW.out this)
  have HT : Hid (∀ v, DevIs w3.heap.size (w8.setCell ⟨g, 9, none⟩ v) p7 D2 ∧ Ch (fun _ => False) w (w8.setCell ⟨g, 9, none⟩ v)) := fun v =>
    ⟨h8.ch (Ch.setCell (S := fun i => i = g) (Ch.refl _ w8) (p := ⟨g, 9, none⟩) (Or.inl rfl) v) (fun i hi e => hg8 (e ▸ hi)), k8.setCell (p := ⟨g, 9, none⟩) (Or.inr (by
      have h1 := (HS.out (.int .u8 0)).2.size
      simp [World.setCell] at hbg h1
      show w.heap.size ≤ g
      omega)) v⟩
  have HD2 := Lib.hid hD2
  clear h8 hv8 hc8 hbg hglt e8 hD2 hn2 hg8 k8 HS HD s0 fs0
  go_wp2_with fail
  refine (len_nil _).mono ?_
  rintro e w9 ⟨rfl, rfl⟩
  go_wp2_with fail
  refine (ops_nil _).mono ?_
  rintro e w9 ⟨rfl, rfl⟩
  go_wp2_with fail
  refine (dead_nil _).mono ?_
  rintro e w9 ⟨rfl, rfl⟩
  go_wp2_with fail
  refine (copy_nil _).mono ?_
  rintro e w9 ⟨rfl, rfl⟩
  go_wp2_with fail
  refine (show Calls Try.prog _ #[_, .int .i64 1, _] _ _ from lhas_any _ p7 D2 1 b hb _ (HT.out _).1 (by rw [HD2.out]; exact (by decide : 2 ≤ 1152921504606846976)) (by rw [HD2.out]; exact (by decide : 1 ≤ 1048576))).mono ?_
  rintro e w10 ⟨rfl, p10, _, _, _, hc10⟩
  have e10 : hasP D2 1 b = true := by rw [HD2.out]; exact hasP_yes rfl (fun _ _ => rfl)
  rw [e10]
  have HC10 := Lib.hid (show Ch (fun _ => False) w w10 from (HT.out _).2.new (hc10.mono fun i _ hi => Nat.le_trans HBW.out ((HT.out (.int .u8 0)).1.foot hi).1))
  clear hc10 HT
  go_wp2
  go_ret
  exact ⟨rfl, HC10.out⟩
theorem diskNone_of (a b : Int) (w : World) (ha : -9223372036854775808 ≤ a ∧ a ≤ 9223372036854775807) (hb : 0 ≤ b ∧ b < 256) : Calls Try.prog 7 #[.int .i64 a, .int .u8 b] w (Told w) := by
  obtain ⟨n, rfl⟩ : ∃ n : Nat, b = (n : Int) := ⟨b.toNat, by omega⟩
  exact diskNone_any a n (by omega) w
#print axioms diskNone_of
end Go.Proofs.Ytkbhpkpacojpcaa
