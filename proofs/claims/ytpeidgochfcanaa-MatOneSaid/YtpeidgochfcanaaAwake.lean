/-
  The chapter's examples, walked: they come out as they should.
-/
import Derived.Test.YtpeidgochfcanaaInv
import Derived.Test.YtpeidgochfcanaaRefMul
namespace Go.Proofs.Ytpeidgochfcanaa
open Go.RowKit
set_option linter.unusedVariables false

def Told (w : World) (e : Ending) (w' : World) : Prop := e = .returned (.bool true) ∧ Ch (fun _ => False) w w'
theorem ones_none {W : Nat → Nat → Nat} (h : Reach 2 (fun _ _ => 1) 2 W) : False := by
  have hX : AllB (fun _ _ => 1) := fun _ _ => by show 1 < 256; omega
  obtain ⟨⟨D, ht⟩, hc⟩ := (Reach.turned hX h)
  have hd := (ht.done hX hc).1
  have h0 := hd 0 0 (by omega) (by omega)
  have h1 := hd 0 1 (by omega) (by omega)
  have e : mulZ 2 (left 2 W) (fun _ _ => 1) 0 0 = mulZ 2 (left 2 W) (fun _ _ => 1) 0 1 := rfl
  rw [h0, h1] at e
  simp [oneZ] at e
theorem cau142 : cauZ 2 0 0 = 142 := by decide +kernel
theorem cau244 : cauZ 2 0 1 = 244 := by decide +kernel
/-- The rows 1 1 and 1 1, as they are laid. -/
theorem ones_mat (w : World) : MatV (((w.alloc (.cells #[.int .u8 1, .int .u8 1] /-t-/5)).alloc (.cells #[.int .u8 1, .int .u8 1] /-t-/5)).alloc (.cells #[.slice (some ⟨w.heap.size, 0, none⟩) 2 2, .slice (some ⟨w.heap.size + 1, 0, none⟩) 2 2] /-t-/24)) (.slice (some ⟨w.heap.size + 1 + 1, 0, none⟩) 2 2) 2 (fun _ => 2) (fun _ _ => 1) := by
  have two : ∀ (w : World) (x : Value) (t : TypeId), (w.alloc (.cells #[x, x] t)).rowIs w.heap.size t 2 (fun _ => x) := fun w x t => by
    have := World.rowIs_alloc w #[x, x] t (fun _ => x) (fun i hi => by
      have : i = 0 ∨ i = 1 := by simp at hi; omega
      rcases this with rfl | rfl <;> rfl)
    exact this
  have r0 := ((two w (.int .u8 1) /-t-/5).alloc (.cells #[.int .u8 1, .int .u8 1] /-t-/5)).alloc (.cells #[.slice (some ⟨w.heap.size, 0, none⟩) 2 2, .slice (some ⟨w.heap.size + 1, 0, none⟩) 2 2] /-t-/24)
  have r1 := (two (w.alloc (.cells #[.int .u8 1, .int .u8 1] /-t-/5)) (.int .u8 1) /-t-/5).alloc (.cells #[.slice (some ⟨w.heap.size, 0, none⟩) 2 2, .slice (some ⟨w.heap.size + 1, 0, none⟩) 2 2] /-t-/24)
  have r2 := World.rowIs_alloc ((w.alloc (.cells #[.int .u8 1, .int .u8 1] /-t-/5)).alloc (.cells #[.int .u8 1, .int .u8 1] /-t-/5)) #[.slice (some ⟨w.heap.size, 0, none⟩) 2 2, .slice (some ⟨w.heap.size + 1, 0, none⟩) 2 2] /-t-/24 (fun i => .slice (some ⟨w.heap.size + i, 0, none⟩) 2 2) (fun i hi => by
      have : i = 0 ∨ i = 1 := by simp at hi; omega
      rcases this with rfl | rfl <;> rfl)
  have s1 : (w.alloc (.cells #[.int .u8 1, .int .u8 1] /-t-/5)).heap.size = w.heap.size + 1 := by simp
  have s2 : ((w.alloc (.cells #[.int .u8 1, .int .u8 1] /-t-/5)).alloc (.cells #[.int .u8 1, .int .u8 1] /-t-/5)).heap.size = w.heap.size + 1 + 1 := by simp
  rw [s1] at r1
  rw [s2] at r2
  refine ⟨_, _, rfl, by omega, fun _ => ⟨_, 0, rfl, fun r hr => ⟨.slice (some ⟨w.heap.size + r, 0, none⟩) 2 2, ?_, _, _, rfl, ⟨by show 2 ≤ 140737488351232; omega, Nat.le_refl _⟩, fun _ => ⟨_, 0, rfl, fun c hc => ⟨?_, by show 1 < 256; omega⟩⟩⟩⟩⟩
  · rw [Nat.zero_add]; exact r2.cell hr
  · rw [Nat.zero_add]
    have : r = 0 ∨ r = 1 := by omega
    rcases this with rfl | rfl
    · exact r0.cell hc
    · exact r1.cell hc
set_option maxHeartbeats 1600000 in
set_option maxRecDepth 100000 in
theorem awake_any (w : World) : Calls Try.prog 9 #[] w (Told w) := by
  go_enter Try.func9, Try.ntmps9
  go_wp2_with fail
  refine (cauchy_yes _ _ (by omega) (by omega) (by omega) (by omega) _).mono ?_
  rintro e w1 ⟨v, rfl, hM, hch1⟩
  rw [show (1 : Int).toNat = 1 from rfl, show (2 : Int).toNat = 2 from rfl] at hM
  obtain ⟨b, o, C, rfl, _, hr⟩ := hM.some (by omega)
  obtain ⟨A0, D0, c0, _, h0⟩ := hr 0 (by omega)
  obtain ⟨b0, o0, rfl, hc0⟩ := h0 (by omega)
  have c1 := (hc0 0 (by omega)).1
  have c2 := (hc0 1 (by omega)).1
  rw [cau142] at c1
  rw [cau244] at c2
  rw [Nat.add_zero] at c0 c1
  have HM := Lib.hid hM
  have HC1 := Lib.hid hch1
  have C0 := Lib.hid c0
  have C1 := Lib.hid c1
  have C2 := Lib.hid c2
  clear hM hch1 hr h0 hc0 c0 c1 c2
  go_wp2_with fail
  have hon := ones_mat w1
  refine (inv_yes _ 2 (fun _ => 2) (fun _ _ => 1) _ hon (mayB_mk ⟨by omega, by omega, by omega, by omega, fun _ _ => rfl⟩) rfl).mono ?_
  rintro e w2 (⟨W, hre, _⟩ | ⟨c, W, hc, hre, hz, rfl, hch2⟩)
  · exact (ones_none hre).elim
  have hch : Ch (fun _ => False) w1 w2 := ((((Ch.refl _ w1).alloc _ _).alloc _ _).alloc _ _).trans hch2
  have d0 := hch.cell C0.out (fun f => f)
  have d1 := hch.cell C1.out (fun f => f)
  have d2 := hch.cell C2.out (fun f => f)
  have HM2 := Lib.hid (HM.out.gr hch)
  have HC2 := Lib.hid (HC1.out.trans hch)
  have hmay := mayB_mk (n := 1) (L := fun _ => 2) ⟨by omega, by omega, by omega, by omega, fun _ _ => rfl⟩
  clear hch hch2 hz hre hon
  go_wp2_with fail
  refine (may_any _ 1 (fun _ => 2) _ _ HM2.out).mono ?_
  rintro e w3 ⟨rfl, rfl⟩
  rw [hmay]
  go_wp2
  go_ret
  exact ⟨rfl, HC2.out⟩
#print axioms awake_any
end Go.Proofs.Ytpeidgochfcanaa
