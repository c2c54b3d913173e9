/-
  The chapter's example, walked: it comes out as it should; light.
-/
import Derived.Test.YtlgdajmidcdiaaaRsC
namespace Go.Proofs.Ytlgdajmidcdiaaa
open Go.RowKit
set_option linter.unusedVariables false

def Told (w : World) (e : Ending) (w' : World) : Prop := e = .returned (.bool true) ∧ Ch (fun _ => False) w w'
def exD (r c : Nat) : Nat := if r = 0 then 1 else 2
def exL (r : Nat) : Nat := if r = 0 then 0 else 1
def exS (r c : Nat) : Nat := if r = 1 then 2 else 123
theorem exD_b : AllB exD := fun r c => by unfold exD; split <;> omega
theorem exS_b : AllB exS := fun r c => by unfold exS; split <;> omega
theorem ex123 : mulZ 2 (cauZ 2) exD 0 0 = 123 := by decide +kernel
theorem exIdx : idx exL 3 = [1, 2] := by decide
theorem exLong : longZ exL 3 = 1 := by decide
theorem exFits : Fits exL 3 := fun i hi h0 => by
  have key : ∀ j, j < 3 → 0 < exL j → exL j = 1 := fun j _ q => by unfold exL at q ⊢; split <;> simp_all
  exact ⟨by rw [key i hi h0]; omega, fun j hj q => by rw [key i hi h0, key j hj q]⟩
theorem exBack : DataOf exL 3 2 1 exS exD := by
  refine data_back exD_b (fun i c hi h0 hc => ?_) (by rw [exIdx]; decide)
  obtain rfl : c = 0 := by omega
  have hi' : i = 1 ∨ i = 2 := by
    by_cases q : i = 0
    · rw [q] at h0; exact absurd h0 (by decide)
    · omega
  rcases hi' with rfl | rfl
  · decide +kernel
  · decide +kernel
theorem ex_first {D : Nat → Nat → Nat} (h : DataOf exL 3 2 1 exS D) : sharesZ 2 D 0 0 = 1 := by
  rw [shares_data h.1 (by omega), h.only exBack (rows_left (by rw [exIdx]; decide) (by omega) (by omega)) 0 0 (by omega) (by omega)]
  rfl
theorem one_row (w : World) (x : Nat) (t : TypeId) : (w.alloc (.cells #[.int .u8 (x : Int)] t)).rowIs w.heap.size t 1 (fun _ => .int .u8 (x : Int)) := by
  have := World.rowIs_alloc w #[.int .u8 (x : Int)] t (fun _ => .int .u8 (x : Int)) (fun i hi => by
    have : i = 0 := by simp at hi; omega
    subst this; rfl)
  exact this
theorem lit_data (w : World) : MatV (((w.alloc (.cells #[.int .u8 1] /-t-/5)).alloc (.cells #[.int .u8 2] /-t-/5)).alloc (.cells #[.slice (some ⟨w.heap.size, 0, none⟩) 1 1, .slice (some ⟨w.heap.size + 1, 0, none⟩) 1 1] /-t-/33)) (.slice (some ⟨w.heap.size + 1 + 1, 0, none⟩) 2 2) 2 (fun _ => 1) exD := by
  have r0 := ((one_row w 1 /-t-/5).alloc (.cells #[.int .u8 2] /-t-/5)).alloc (.cells #[.slice (some ⟨w.heap.size, 0, none⟩) 1 1, .slice (some ⟨w.heap.size + 1, 0, none⟩) 1 1] /-t-/33)
  have r1 := (one_row (w.alloc (.cells #[.int .u8 1] /-t-/5)) 2 /-t-/5).alloc (.cells #[.slice (some ⟨w.heap.size, 0, none⟩) 1 1, .slice (some ⟨w.heap.size + 1, 0, none⟩) 1 1] /-t-/33)
  have r2 := World.rowIs_alloc ((w.alloc (.cells #[.int .u8 1] /-t-/5)).alloc (.cells #[.int .u8 2] /-t-/5)) #[.slice (some ⟨w.heap.size, 0, none⟩) 1 1, .slice (some ⟨w.heap.size + 1, 0, none⟩) 1 1] /-t-/33 (fun i => .slice (some ⟨w.heap.size + i, 0, none⟩) 1 1) (fun i hi => by
      have : i = 0 ∨ i = 1 := by simp at hi; omega
      rcases this with rfl | rfl <;> rfl)
  have s1 : (w.alloc (.cells #[.int .u8 1] /-t-/5)).heap.size = w.heap.size + 1 := by simp
  have s2 : ((w.alloc (.cells #[.int .u8 1] /-t-/5)).alloc (.cells #[.int .u8 2] /-t-/5)).heap.size = w.heap.size + 1 + 1 := by simp
  rw [s1] at r1
  rw [s2] at r2
  refine ⟨_, _, rfl, by omega, fun _ => ⟨_, 0, rfl, fun r hr => ⟨.slice (some ⟨w.heap.size + r, 0, none⟩) 1 1, ?_, _, _, rfl, ⟨by show 1 ≤ 140737488351232; omega, Nat.le_refl _⟩, fun _ => ⟨_, 0, rfl, fun c hc => ⟨?_, exD_b _ _⟩⟩⟩⟩⟩
  · rw [Nat.zero_add]; exact r2.cell hr
  · rw [Nat.zero_add]
    have : r = 0 ∨ r = 1 := by omega
    rcases this with rfl | rfl
    · exact r0.cell hc
    · exact r1.cell hc
theorem lit_left (w : World) : MatV (((w.alloc (.cells #[.int .u8 2] /-t-/5)).alloc (.cells #[.int .u8 123] /-t-/5)).alloc (.cells #[.slice none 0 0, .slice (some ⟨w.heap.size, 0, none⟩) 1 1, .slice (some ⟨w.heap.size + 1, 0, none⟩) 1 1] /-t-/33)) (.slice (some ⟨w.heap.size + 1 + 1, 0, none⟩) 3 3) 3 exL exS := by
  have r0 := ((one_row w 2 /-t-/5).alloc (.cells #[.int .u8 123] /-t-/5)).alloc (.cells #[.slice none 0 0, .slice (some ⟨w.heap.size, 0, none⟩) 1 1, .slice (some ⟨w.heap.size + 1, 0, none⟩) 1 1] /-t-/33)
  have r1 := (one_row (w.alloc (.cells #[.int .u8 2] /-t-/5)) 123 /-t-/5).alloc (.cells #[.slice none 0 0, .slice (some ⟨w.heap.size, 0, none⟩) 1 1, .slice (some ⟨w.heap.size + 1, 0, none⟩) 1 1] /-t-/33)
  have r2 := World.rowIs_alloc ((w.alloc (.cells #[.int .u8 2] /-t-/5)).alloc (.cells #[.int .u8 123] /-t-/5)) #[.slice none 0 0, .slice (some ⟨w.heap.size, 0, none⟩) 1 1, .slice (some ⟨w.heap.size + 1, 0, none⟩) 1 1] /-t-/33 (fun i => if i = 0 then .slice none 0 0 else .slice (some ⟨w.heap.size + (i - 1), 0, none⟩) 1 1) (fun i hi => by
      have : i = 0 ∨ i = 1 ∨ i = 2 := by simp at hi; omega
      rcases this with rfl | rfl | rfl <;> rfl)
  have s1 : (w.alloc (.cells #[.int .u8 2] /-t-/5)).heap.size = w.heap.size + 1 := by simp
  have s2 : ((w.alloc (.cells #[.int .u8 2] /-t-/5)).alloc (.cells #[.int .u8 123] /-t-/5)).heap.size = w.heap.size + 1 + 1 := by simp
  rw [s1] at r1
  rw [s2] at r2
  refine ⟨_, _, rfl, by omega, fun _ => ⟨_, 0, rfl, fun r hr => ⟨if r = 0 then .slice none 0 0 else .slice (some ⟨w.heap.size + (r - 1), 0, none⟩) 1 1, ?_, ?_⟩⟩⟩
  · rw [Nat.zero_add]; exact r2.cell hr
  · have : r = 0 ∨ r = 1 ∨ r = 2 := by omega
    rcases this with rfl | rfl | rfl
    · exact ⟨none, 0, rfl, by show 0 ≤ _ ∧ 0 ≤ 0; omega, fun h => absurd h (by decide)⟩
    · exact ⟨_, 1, rfl, by show 1 ≤ _ ∧ 1 ≤ 1; omega, fun _ => ⟨_, 0, rfl, fun c hc => ⟨by rw [Nat.zero_add]; exact r0.cell hc, exS_b _ _⟩⟩⟩
    · exact ⟨_, 1, rfl, by show 1 ≤ _ ∧ 1 ≤ 1; omega, fun _ => ⟨_, 0, rfl, fun c hc => ⟨by rw [Nat.zero_add]; exact r1.cell hc, exS_b _ _⟩⟩⟩
set_option maxHeartbeats 1600000 in
set_option maxRecDepth 100000 in
theorem awake_any (w : World) : Calls Try.prog 10 #[] w (Told w) := by
  go_enter Try.func10, Try.ntmps10
  go_wp2_with fail
  refine (encode_new _ 2 1 (fun _ => 1) exD _ (lit_data w) (may_const (by omega) (by omega) (by omega) (by omega)) (by omega)).mono ?_
  rintro e w1 ⟨v, rfl, hB, hch1⟩
  have hM := hB.mat (by omega)
  obtain ⟨b, o, C, rfl, _, hr⟩ := hM.some (by omega)
  obtain ⟨A0, D0, c0, _, h0⟩ := hr 0 (by omega)
  obtain ⟨b0, o0, rfl, hc0⟩ := h0 (by omega)
  have c1 := (hc0 0 (by omega)).1
  rw [ex123] at c1
  rw [Nat.add_zero] at c0 c1
  have HC1 := Lib.hid (((((Ch.refl (fun _ => False) w).alloc _ _).alloc _ _).alloc _ _).trans hch1)
  clear hM hch1 hr h0 hc0 hB
  go_wp2_with fail
  refine (decode_yes _ _ _ 3 2 exL exS exS_b _ (by omega) (by omega) (by omega) (lit_left w1) exFits (by rw [exIdx]; decide)).mono ?_
  rintro e w2 ⟨D, hD, v, rfl, hB, hch2⟩
  rw [exLong] at hD hB
  have hM := hB.mat (by omega)
  obtain ⟨b2, o2, C2, rfl, _, hr⟩ := hM.some (by omega)
  obtain ⟨A0, D0, d0, _, h0⟩ := hr 0 (by omega)
  obtain ⟨b0, o0, rfl, hc0⟩ := h0 (by omega)
  have d1 := (hc0 0 (by omega)).1
  rw [ex_first hD] at d1
  rw [Nat.add_zero] at d0 d1
  have HC2 := Lib.hid (((((Ch.refl (fun _ => False) w1).alloc _ _).alloc _ _).alloc _ _).trans hch2)
  clear hM hch2 hr h0 hc0 hB hD c0 c1
  go_wp2
  go_ret
  exact ⟨rfl, HC1.out.trans HC2.out⟩
#print axioms awake_any
def lightB (n : Nat) (L : Nat → Nat) : Bool := decide (n ≤ 20 ∧ ∀ r, r < n → L r ≤ 40)
theorem lightB_true {n : Nat} {L : Nat → Nat} (h : lightB n L = true) : n ≤ 20 ∧ ∀ r, r < n → L r ≤ 40 := of_decide_eq_true h
theorem lightB_no {n : Nat} {L : Nat → Nat} (h : ¬ (n ≤ 20 ∧ ∀ r, r < n → L r ≤ 40)) : lightB n L = false := decide_eq_false h
theorem ret_bool' {a b : Bool} (h : a = b) : Ending.returned (.bool a) = .returned (.bool b) := by rw [h]
set_option maxHeartbeats 800000 in
theorem light_any (v : Value) (n : Nat) (L : Nat → Nat) (Z : Nat → Nat → Nat) (w : World) (h : MatV w v n L Z) :
    Calls Try.prog 11 #[v] w fun e w' => e = .returned (.bool (lightB n L)) ∧ w = w' := by
  by_cases hn : 0 < n
  case neg =>
    obtain rfl : n = 0 := by omega
    obtain ⟨A, C, rfl⟩ := h.none
    have HB := Lib.hid (show lightB 0 L = true from decide_eq_true ⟨by omega, fun r hr => absurd hr (Nat.not_lt_zero r)⟩)
    clear h
    go_enter Try.func11, Try.ntmps11
    go_wp2
    refine wp_loop_rounds 1 ?_
    rw [rounds_succ]
    go_wp2
    go_ret
    exact ⟨ret_bool' HB.out.symm, rfl⟩
  obtain ⟨b, o, C, rfl, hb, hr⟩ := h.some hn
  have HR := Lib.hid hr
  clear hr h
  by_cases h20 : n ≤ 20
  case neg =>
    have t1 : decide ((20 : Int) < (n : Int)) = true := by simp; omega
    have HB := Lib.hid (lightB_no (n := n) (L := L) fun q => h20 q.1)
    go_enter Try.func11, Try.ntmps11
    go_wp2
    go_ret
    exact ⟨ret_bool' HB.out.symm, rfl⟩
  have t1 : decide ((20 : Int) < (n : Int)) = false := by simp; omega
  go_enter Try.func11, Try.ntmps11
  go_wp2
  go_loop [3] (fun t => ∃ k : Nat, k ≤ n ∧ t = .int .i64 k ∧ Hid (∀ r, r < k → L r ≤ 40)) (fun t => n - (intOf t).toNat)
  case atStart => exact ⟨0, Nat.zero_le _, rfl, Lib.hid fun r hr => absurd hr (Nat.not_lt_zero r)⟩
  case round =>
    obtain ⟨k, hk, rfl, HK⟩ := hrel
    by_cases hlt : k < n
    · obtain ⟨A, D, cs, hl, _⟩ := HR.out k hlt
      by_cases h40 : L k ≤ 40
      · have t2 : decide ((40 : Int) < (L k : Int)) = false := by simp; omega
        go_wp2
        go_round
        case rel => exact ⟨k + 1, by omega, by go_num, Lib.hid fun r hr => by
                      by_cases e : r = k
                      · rw [e]; exact h40
                      · exact HK.out r (by omega)⟩
        case measure => simp [intOf]; omega
      · have t2 : decide ((40 : Int) < (L k : Int)) = true := by simp; omega
        have HB := Lib.hid (lightB_no (n := n) (L := L) fun q => h40 (q.2 k hlt))
        go_wp2
        go_ret
        exact ⟨ret_bool' HB.out.symm, rfl⟩
    · have HB := Lib.hid (show lightB n L = true from decide_eq_true ⟨h20, fun r hr => HK.out r (by omega)⟩)
      go_wp2
      go_ret
      exact ⟨ret_bool' HB.out.symm, rfl⟩
#print axioms light_any
end Go.Proofs.Ytlgdajmidcdiaaa
