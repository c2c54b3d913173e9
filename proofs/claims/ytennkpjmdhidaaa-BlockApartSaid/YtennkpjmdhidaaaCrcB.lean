/-
  crc.Seal and bytes.Equal, walked.
-/
import Derived.Test.YtennkpjmdhidaaaCrcA
import Derived.Test.YtennkpjmdhidaaaSame
import Derived.Deep.DeepCutAuto
namespace Go.Proofs.Ytennkpjmdhidaaa
open Go.RowKit
set_option linter.unusedVariables false

/-- A new row. -/
def NewRow (n : Nat) (z : Nat → Nat) (w : World) (e : Ending) (w' : World) : Prop :=
  ∃ g C, e = .returned (.slice (some ⟨g, 0, none⟩) n C) ∧ w'.ownsRow w.heap.size /-t-/5 1 (.slice (some ⟨g, 0, none⟩) n C) n (bytesL n z) ∧ Ch (fun _ => False) w w'
theorem owns_some {w : World} {base n : Nat} {v : Value} {xs : List Value} (h : w.ownsRow base /-t-/5 1 v n xs) (hn : 0 < n) : ∃ g C, v = .slice (some ⟨g, 0, none⟩) n C ∧ n ≤ C := by
  rcases h.2 with ⟨_, h0⟩ | ⟨g, cap, cur, rfl, _, _, hc, _⟩
  · omega
  · exact ⟨g, cap, rfl, hc⟩
/-- copy of as many bytes as the row has, into a row of one's own with room behind. -/
theorem cpy_row {w : World} {g n c : Nat} {A : Option Addr} {C base : Nat} {z : Nat → Nat} {cur : Array Value} (hg : w.heap[g]? = some (.cells cur /-t-/5 (0, 0))) (hs : cur.size = c) (hn : n ≤ c) (hc : c ≤ maxLen) (hb : base ≤ g) (h : RowV w (.slice A n C) n z) :
    ∃ w', (∀ ty, (Builtin.copy_ #[ /-t-/22, /-t-/22] ty #[.slice (some ⟨g, 0, none⟩) n c, .slice A n C]).run Try.prog w = .ok (goInt n) w') ∧ w'.ownsRow base /-t-/5 1 (.slice (some ⟨g, 0, none⟩) n c) n (bytesL n z) ∧ w.grownBy w' (some g) := by
  by_cases h0 : n = 0
  · subst h0
    refine ⟨w, fun ty => run_copy_none w /-t-/22 /-t-/22 ty /-t-/5 _ _ 0 c 0 C Try.underlying22 size_byte rfl, ⟨rfl, Or.inr ⟨g, c, cur, rfl, hb, hg, hn, hc, by omega, by simp [bytesL]⟩⟩, ⟨rfl, rfl, rfl, Nat.le_refl _, fun _ _ _ => rfl⟩⟩
  · obtain ⟨_, _, e, hl, h3⟩ := h
    injection e with e _ _
    subst e
    obtain ⟨b, o, rfl, h4⟩ := h3 (by omega)
    have hrun := fun ty => run_copy_row (P := Try.prog) w /-t-/22 /-t-/22 ty /-t-/5 g 0 n c ⟨b, o, none⟩ n C cur /-t-/5 (bytesL n z) Try.underlying22 size_byte hg (by rw [bytesL_len]; simp) (fun j v hv => by
      by_cases q : j < n
      · rw [bytesL_get q] at hv
        rw [add_pl, (h4 j q).1]
        exact hv
      · rw [bytesL_none q] at hv
        cases hv) (by rw [bytesL_len]; omega) bytesL_one
    rw [bytesL_len] at hrun
    refine ⟨_, hrun, ⟨by rw [bytesL_len, Nat.mul_one], Or.inr ⟨g, c, _, rfl, hb, setRow_heap w g cur _ /-t-/5 _ hg, hn, hc, ?_, ?_⟩⟩, ⟨rfl, rfl, rfl, by simp, fun k _ hk => setRow_other w g k _ (fun e => hk (by simp [e]))⟩⟩
    · simp [bytesL_len]; omega
    · simp only [Nat.mul_one, List.take_zero, List.nil_append]
      rw [List.take_append_of_le_length (by rw [bytesL_len]; omega), List.take_of_length_le (by rw [bytesL_len]; omega)]
theorem seal_join (n : Nat) (z : Nat → Nat) : bytesL (n + 4) (jnZ n z (Crc.byteOf (Crc.sumZ n z))) = bytesL (n + 4) (Crc.sealZ n z) := bytesL_congr fun c _ => rfl
set_option maxHeartbeats 800000 in
theorem seal_any (A : Option Addr) (n C : Nat) (z : Nat → Nat) (w : World) (hn : n ≤ 65536) (h : RowV w (.slice A n C) n z) : Calls Try.prog 21 #[.slice A n C] w (NewRow (n + 4) (Crc.sealZ n z) w) := by
  obtain ⟨i0, hi, hz0, hz1, hz2⟩ := info_parts Try.info5
  have hmk : ∀ w : World, (Instr.makeSlice /-t-/22 (.int .i64 (n : Int)) (.int .i64 ((n : Int) + 4))).run Try.prog w = .ok (.slice (some ⟨w.heap.size, 0, none⟩) n (n + 4)) (w.alloc (.cells (madeCells #[.int .u8 0] (n + 4)) /-t-/5)) := fun w => by
    have := run_make (P := Try.prog) w /-t-/22 /-t-/5 i0 (.int .u8 0) Try.underlying22 hi hz0 .i64 .i64 (n : Int) ((n : Int) + 4) (by omega) (by omega) (by rw [hz2]; omega) (by omega)
    rw [hz1, Nat.mul_one, Int.toNat_natCast, show ((n : Int) + 4).toNat = n + 4 by omega] at this
    exact this
  have HV := Lib.hid h
  have HG := Lib.hid (heap_alloc_new w (.cells (madeCells #[.int .u8 0] (n + 4)) /-t-/5))
  obtain ⟨w2, hrun, hown, hgr⟩ := cpy_row (base := w.heap.size) HG.out (size_madeCells _ _) (Nat.le_add_right n 4) (by unfold maxLen; omega) (Nat.le_refl _) (h.gr ((Ch.refl _ w).alloc _ _))
  have hch := ((Ch.refl (fun _ => False) w).alloc (madeCells #[.int .u8 0] (n + 4)) /-t-/5).grown hgr (fun i e => Or.inr (by injection e with e; omega))
  have HRUN := Lib.hid hrun
  have HOWN := Lib.hid hown
  have HC := Lib.hid hch
  have HB := Lib.hid h.bytes
  clear h hrun hown hgr hch hi hz0 hz1 hz2
  go_enter Try.func21, Try.ntmps21
  go_wp2_with (refine wpList_cpy_of _ rfl (.tmp 10) (.tmp 11) rfl _ _ _ w2 rfl rfl HRUN.out ?_)
  refine (sum_any _ _ _ z _ (HV.out.gr HC.out)).mono ?_
  rintro e w3 ⟨rfl, hch3⟩
  have HC3 := Lib.hid (HC.out.trans hch3)
  have HO3 := Lib.hid (ownsRow_ch HOWN.out hch3)
  clear hch3 HOWN HRUN
  go_wp2_with fail
  refine (lay_any _ (Crc.sumZ_lt HB.out) _).mono ?_
  rintro e w4 ⟨rfl, rfl⟩
  obtain ⟨v', w5, hr5, ho5, hg5, _⟩ := app_row (HO3.out.alloc (.cells (layL (Crc.sumZ n z)) /-t-/5)) (by simp; have := HC3.out.size; omega) (lay_row (Crc.sumZ n z) w3) (by omega)
  obtain ⟨g5, C5, rfl, _⟩ := owns_some ho5 (by omega)
  rw [seal_join] at ho5
  have HR5 := Lib.hid hr5
  have HO5 := Lib.hid ho5
  have HC5 := Lib.hid ((HC3.out.alloc (layL (Crc.sumZ n z)) /-t-/5).grown hg5 (fun i e => Or.inr (by
    have := (World.ownsRow.lt HO3.out i e).1
    omega)))
  clear hr5 ho5 hg5
  go_wp2_with (at_builtin; refine wpList_app_of _ rfl (.tmp 13) (.tmp 16) rfl rfl _ _ _ w5 rfl rfl HR5.out ?_)
  go_ret
  exact ⟨_, _, rfl, HO5.out, HC5.out⟩
#print axioms seal_any

/-! ### Equal -/
theorem text_eqB {n m : Nat} {z y : Nat → Nat} (hz : Bytes n z) (hy : Bytes m y) : ((textOf n z).toList == (textOf m y).toList) = eqB n m z y := by
  rw [ByteArray.toList_eq, ByteArray.toList_eq]
  have e : ((textOf n z).data.toList == (textOf m y).data.toList) = decide (textOf n z = textOf m y) := by
    rw [Bool.eq_iff_iff, beq_iff_eq, decide_eq_true_iff]
    exact ⟨fun h => ByteArray.ext (Array.ext' h), fun h => by rw [h]⟩
  rw [e]
  unfold eqB
  rw [decide_eq_decide]
  exact text_inj hz hy
theorem equal_any (A B : Option Addr) (n m C D : Nat) (z y : Nat → Nat) (w : World) (h : RowV w (.slice A n C) n z) (h2 : RowV w (.slice B m D) m y) : Calls Try.prog 26 #[.slice A n C, .slice B m D] w fun e w' => e = .returned (.bool (eqB n m z y)) ∧ w = w' := by
  have c1 := row_text h
  have c2 := row_text h2
  have HE := Lib.hid (text_eqB h.bytes h2.bytes)
  obtain ⟨S, hS⟩ : ∃ S, S = textOf n z := ⟨_, rfl⟩
  obtain ⟨T, hT⟩ : ∃ T, T = textOf m y := ⟨_, rfl⟩
  rw [← hS] at c1 HE
  rw [← hT] at c2 HE
  clear h h2 hS hT
  go_enter Try.func26, Try.ntmps26
  go_wp2
  go_ret
  exact ⟨ret_bool HE.out, rfl⟩
#print axioms equal_any

end Go.Proofs.Ytennkpjmdhidaaa
