/-
  The chapter's examples (awake), walked.
-/
import Derived.Test.YtfnmdcfnojgofaaCodU
import Derived.Test.YtfnmdcfnojgofaaCodR
import Derived.Test.YtfnmdcfnojgofaaSame
namespace Go.Proofs.Ytfnmdcfnojgofaa
open Go.RowKit Go.Shelf Cod
set_option linter.unusedVariables false

theorem PutPost.told {base B : Nat} {v r : Value} {L : List Nat} {w0 w w' : World} {e : Ending} (h : PutPost base B v L r w e w') (ho : ∀ i, Foot B v i → base ≤ i) (hb : base = w0.heap.size) (hc : Ch (fun _ => False) w0 w) :
    e = .returned r ∧ ∃ v', OutIs base w' B v' L ∧ (v'.ownBlock = v.ownBlock ∨ ∀ i, v'.ownBlock = some i → w.heap.size ≤ i) ∧ Ch (Foot B v) w w' ∧ Ch (fun _ => False) w0 w' := by
  obtain ⟨h1, v', h2, h3, h4⟩ := h
  exact ⟨h1, v', h2, h3, h4, hc.new (h4.mono (fun i _ hi => hb ▸ ho i hi))⟩
def litV (l : List Nat) : Array Value := (l.map fun (x : Nat) => Value.int .u8 (x : Int)).toArray
theorem lit_row (w : World) (l : List Nat) (n : Nat) (fr : Nat × Nat) (hn : l.length = n) (h : ∀ x ∈ l, x < 256) (h2 : n ≤ 65536) : RowV (w.alloc (.cells (litV l) /-t-/5 fr)) (.slice (some ⟨w.heap.size, 0, none⟩) n n) n (litZ l) := by
  refine ⟨_, _, rfl, by omega, fun _ => ⟨_, _, rfl, fun c hc => ⟨?_, ?_⟩⟩⟩
  · rw [cell_of_row _ _ _ _ _ fr (heap_alloc_new w _), Nat.zero_add]
    unfold litV litZ
    have hc' : c < l.length := by omega
    simp [List.getD, hc']
  · exact litZ_b h c
theorem ex_digs : digs 300 = [172, 2] ∧ digs (turnZ (-1)) = [1] ∧ digs (turnZ 1) = [2] ∧ byL 2 (litZ [7, 8]) = [2, 7, 8] := by
  refine ⟨?_, ?_, ?_, ?_⟩
  · rw [digs_big (by omega), digs_small (by omega)]
  · exact digs_small (by decide)
  · exact digs_small (by decide)
  · unfold byL; rw [digs_small (by omega)]; rfl
theorem ex_form : Rd 2 (litZ [128, 0]) 0 7 := rd_idle (j := 1) (by omega) (by omega) (by omega) (fun i hi => by
  obtain rfl : i = 0 := by omega
  decide) rfl
theorem OutIs.fresh {base B b : Nat} {w : World} {v : Value} {L : List Nat} (h : OutIs base w B v L) (hb : w.heap.size ≤ b) : ¬ Foot B v b := fun hf => by
  rcases hf with rfl | hf
  · have := h.box.lt; omega
  · have := (World.ownsRow.lt h.own b hf).2; omega
theorem Off.new {S : Nat → Prop} {b o n C : Nat} (h : ¬ S b) : Off S (.slice (some ⟨b, o, none⟩) n C) := fun b' o' m C' e hb => by
  injection e with e _ _
  injection e with e
  injection e with e _
  subst e
  exact h hb
set_option maxHeartbeats 1600000 in
set_option maxRecDepth 100000 in
theorem awake_any (w : World) : Calls Try.prog 8 #[] w (Told w) := by
  have H0 := Lib.hid (nil_out w.heap.size w (Nat.le_refl _))
  have HC0 := Lib.hid ((Ch.refl (fun _ => False) w).alloc #[.slice none 0 0] 28)
  have HX := Lib.hid ex_digs
  go_enter Try.func8, Try.ntmps8
  go_wp2_with fail
  refine (show Calls Try.prog _ #[_, .int .i64 300] _ _ from onum_any w.heap.size w.heap.size 300 _ [] _ (by omega) H0.out (by simp) (Nat.zero_le _)).mono ?_
  rintro e w1 h
  obtain ⟨rfl, v1, h1, hv1, _, hc1⟩ := h.told (fun i => H0.out.foot) rfl HC0.out
  rw [List.nil_append, HX.out.1] at h1
  have H1 := Lib.hid h1
  have HC1 := Lib.hid hc1
  clear h h1 hv1 hc1 H0 HC0
  go_wp2_with fail
  refine (oint_any w.heap.size w.heap.size (-1) v1 _ _ (by omega) H1.out HC1.out.size (by decide)).mono ?_
  rintro e w2 h
  obtain ⟨rfl, v2, h2, hv2, _, hc2⟩ := h.told (fun i => H1.out.foot) rfl HC1.out
  rw [HX.out.2.1] at h2
  have H2 := Lib.hid h2
  have HC2 := Lib.hid hc2
  clear h h2 hv2 hc2 H1 HC1
  go_wp2_with fail
  refine (oint_any w.heap.size w.heap.size 1 v2 _ _ (by omega) H2.out HC2.out.size (by decide)).mono ?_
  rintro e w3 h
  obtain ⟨rfl, v3, h3, hv3, _, hc3⟩ := h.told (fun i => H2.out.foot) rfl HC2.out
  rw [HX.out.2.2.1] at h3
  have H3 := Lib.hid h3
  have HC3 := Lib.hid hc3
  clear h h3 hv3 hc3 H2 HC2
  go_wp2_with fail
  have HR := Lib.hid (lit_row w3 [7, 8] 2 (0, 0) rfl (by decide) (by omega))
  have H3' := Lib.hid (H3.out.ch (Ch.refl (fun _ => False) w3 |>.alloc #[.int .u8 7, .int .u8 8] /-t-/5) (fun _ _ f => f))
  have HC3' := Lib.hid (HC3.out.alloc #[.int .u8 7, .int .u8 8] /-t-/5)
  refine (obytes_any w.heap.size w.heap.size 2 2 _ (litZ [7, 8]) v3 _ _ (by omega) H3'.out HR.out (Off.new (H3.out.fresh (Nat.le_refl _))) HC3'.out.size (by decide)).mono ?_
  rintro e w4 h
  obtain ⟨rfl, v4, h4, _, _, hc4⟩ := h.told (fun i => H3'.out.foot) rfl HC3'.out
  rw [HX.out.2.2.2, show [172, 2] ++ [1] ++ [2] ++ [2, 7, 8] = [172, 2, 1, 2, 2, 7, 8] from rfl] at h4
  have H4 := Lib.hid h4
  have HC4 := Lib.hid hc4
  clear h h4 hc4 H3 HC3 HR H3' HC3'
  go_wp2_with fail
  refine (all_any w.heap.size w.heap.size v4 _ _ H4.out (by decide)).mono ?_
  rintro e w5 ⟨x, rfl, h5, hc5⟩
  have hr5 : RowV w5 x 7 (litZ [172, 2, 1, 2, 2, 7, 8]) := ownsRow_rowV h5 (by decide) (fun c _ => litZ_b (by decide) c)
  obtain ⟨A5, C5, rfl, _⟩ := id hr5
  have HR5 := Lib.hid hr5
  have HC5 := Lib.hid (HC4.out.trans hc5)
  clear h5 hc5 hr5 H4 HC4
  go_wp2_with fail
  refine (same_any _ _ _ _ _ _ _ _ _ (HR5.out.gr ((Ch.refl _ _).alloc _ _)) (lit_row w5 [172, 2, 1, 2, 2, 7, 8] 7 (0, 0) rfl (by decide) (by omega))).mono ?_
  rintro e w6 ⟨rfl, d, rfl⟩
  rw [show eqB 7 7 (litZ [172, 2, 1, 2, 2, 7, 8]) (litZ [172, 2, 1, 2, 2, 7, 8]) = true from decide_eq_true ⟨rfl, fun _ _ => rfl⟩]
  obtain ⟨w6, hw6⟩ : ∃ w6, w6 = (w5.alloc (.cells (litV [172, 2, 1, 2, 2, 7, 8]) /-t-/5)).drewN d := ⟨_, rfl⟩
  have HC6 := Lib.hid (show Ch (fun _ => False) w w6 by rw [hw6]; exact (HC5.out.alloc _ _).drewN d)
  rw [← hw6]
  clear hw6 HR5 HC5
  go_wp2_with fail
  refine (newIn_any _ 2 _ _ _ (lit_row w6 [128, 0] 2 (0, 0) rfl (by decide) (by omega)) (by omega)).mono ?_
  rintro e w7 ⟨B7, x7, rfl, h7, hb7, hc7⟩
  have H7 := Lib.hid h7
  have HC7 := Lib.hid ((HC6.out.alloc _ _).trans hc7)
  have hb7' : w.heap.size ≤ B7 := by have := HC6.out.size; simp at hb7; omega
  clear h7 hc7 hb7 HC6
  go_wp2_with fail
  refine (inum_any B7 2 x7 _ 0 7 _ H7.out ex_form).mono ?_
  rintro e w8 ⟨rfl, x8, _, _, hc8⟩
  have HC8 := Lib.hid (HC7.out.newer hc8 hb7')
  clear hc8 H7 HC7
  rw [show (resV T63 (litZ [128, 0]) 0 7 : Int) = 0 from rfl, show (resE T63 (litZ [128, 0]) 0 7 : Int) = 7 from rfl]
  go_wp2_with fail
  refine (newIn_any _ 1 _ _ _ (lit_row w8 [5] 1 (0, 0) rfl (by decide) (by omega)) (by omega)).mono ?_
  rintro e w9 ⟨B9, x9, rfl, h9, hb9, hc9⟩
  have H9 := Lib.hid h9
  have HC9 := Lib.hid ((HC8.out.alloc _ _).trans hc9)
  clear h9 hc9 hb9 HC8
  go_wp2_with fail
  refine (left_any B9 1 x9 _ _ H9.out).mono ?_
  rintro e w10 ⟨rfl, rfl⟩
  go_wp2
  go_ret
  exact ⟨rfl, HC9.out⟩
#print axioms awake_any
end Go.Proofs.Ytfnmdcfnojgofaa
