/-
  A list of rows that is made and filled, one after the other (what is read of sectors). keep's keeper, walked: has, try, write, mend.
-/
import Derived.Test.YtlbdopcchoklhaaGreatMh32
import Derived.Test.YtlbdopcchoklhaaGreatMh30
namespace Go.Proofs.YtlbdopcchoklhaaGreat
open Go.RowKit
set_option linter.unusedVariables false
set_option maxRecDepth 100000
set_option linter.unusedSimpArgs false

/-! ### rows that were read -/
structure LdRow (w wr : World) (B W : Nat) (N : Nat → Nat) (Z : Nat → Nat → Nat) : Prop where
  row : ∃ s, wr.rowIs B /-t-/24 W s ∧ ∀ c, c < W → RowN w wr (s c) (N c) (Z c)
  lo : w.heap.size ≤ B
theorem LdRow.ch {S : Nat → Prop} {w wr w' : World} {B W : Nat} {N : Nat → Nat} {Z : Nat → Nat → Nat} (h : LdRow w wr B W N Z) (k : Ch S wr w') (hS : ∀ i, S i → i < w.heap.size) : LdRow w w' B W N Z := by
  obtain ⟨s, h1, h2⟩ := h.row
  exact ⟨⟨s, k.rowIs h1 fun q => by have := hS B q; have := h.lo; omega, fun c hc => (h2 c hc).ch k fun i hi hb => by have := hS i hi; omega⟩, h.lo⟩
theorem LdRow.read {w wr : World} {B W : Nat} {N : Nat → Nat} {Z : Nat → Nat → Nat} (h : LdRow w wr B W N Z) (hW : W ≤ 1000000) : BsV wr (some ⟨B, 0, none⟩) W W N Z := by
  obtain ⟨s, h1, h2⟩ := h.row
  refine ⟨by omega, Nat.le_refl _, fun _ => ⟨B, 0, rfl, fun c hc => ?_⟩⟩
  obtain ⟨A', C', e, _⟩ := id (h2 c hc)
  refine ⟨A', C', ?_, ?_⟩
  · rw [Nat.zero_add, ← e]; exact h1.cell hc
  · rw [← e]; exact (h2 c hc).row
theorem LdRow.set {w wr : World} {B W k : Nat} {N : Nat → Nat} {Z : Nat → Nat → Nat} {u : Value} {n : Nat} {z : Nat → Nat} (h : LdRow w wr B W N Z) (hu : RowN w wr u n z) (hk : k < W) : LdRow w (wr.setCell ⟨B, k, none⟩ u) B W (up N k n) (up Z k z) := by
  obtain ⟨s, h1, h2⟩ := h.row
  have hB : ∃ c, wr.heap[B]? = some (.cells c /-t-/24 (0, 0)) := by
    obtain ⟨c, hc, _⟩ := h1
    exact ⟨c, hc⟩
  have off : ∀ i, i = B → w.heap.size ≤ i → ¬ ∃ c, wr.heap[i]? = some (.cells c /-t-/5 (0, 0)) := fun i e _ ⟨c, hc⟩ => by
    subst e
    obtain ⟨c2, hc2⟩ := hB
    exact cells_ne hc2 hc (by decide) rfl
  have kk : Ch (fun i => i = B) wr (wr.setCell ⟨B, k, none⟩ u) := (Ch.refl (fun i => i = B) wr).setCell (p := ⟨B, k, none⟩) (Or.inl rfl) _
  refine ⟨⟨up s k u, (h1.set k u).congr fun i _ => rfl, fun c hc => ?_⟩, h.lo⟩
  by_cases q : c = k
  · subst q
    rw [up_same, up_same, up_same]
    exact hu.ch kk off
  · rw [up_other _ _ q, up_other _ _ q, up_other _ _ q]
    exact (h2 c hc).ch kk off
theorem LdRow.congr {w wr : World} {B W : Nat} {N N' : Nat → Nat} {Z Z' : Nat → Nat → Nat} (h : LdRow w wr B W N Z) (e : ∀ c, c < W → N c = N' c ∧ Z c = Z' c) : LdRow w wr B W N' Z' := by
  obtain ⟨s, h1, h2⟩ := h.row
  exact ⟨⟨s, h1, fun c hc => by rw [← (e c hc).1, ← (e c hc).2]; exact h2 c hc⟩, h.lo⟩
/-- What of the first k is laid. -/
def toN (N : Nat → Nat) (k c : Nat) : Nat := if c < k then N c else 0
def toZ (Z : Nat → Nat → Nat) (k c : Nat) : Nat → Nat := if c < k then Z c else fun _ => 0
theorem toN_next (N : Nat → Nat) (k c : Nat) : up (toN N k) k (N k) c = toN N (k + 1) c := by
  unfold toN up
  by_cases q : c = k
  · subst q; rw [if_pos rfl, if_pos (by omega)]
  · rw [if_neg q]
    show (if c < k then _ else _) = _
    by_cases r : c < k
    · rw [if_pos r, if_pos (by omega)]
    · rw [if_neg r, if_neg (by omega)]
theorem toZ_next (Z : Nat → Nat → Nat) (k c : Nat) : up (toZ Z k) k (Z k) c = toZ Z (k + 1) c := by
  unfold toZ up
  by_cases q : c = k
  · subst q; rw [if_pos rfl, if_pos (by omega)]
  · rw [if_neg q]
    show (if c < k then _ else _) = _
    by_cases r : c < k
    · rw [if_pos r, if_pos (by omega)]
    · rw [if_neg r, if_neg (by omega)]
theorem made_bs (n : Nat) (w : World) (hn : n ≤ 1048576) : (Instr.makeSlice /-t-/37 (.int .i64 (n : Int)) (.int .i64 (n : Int))).run Tryz.prog w = .ok (.slice (some ⟨w.heap.size, 0, none⟩) n n) (w.alloc (.cells (madeCells #[.slice none 0 0] n) /-t-/24)) := by
  obtain ⟨i0, hi, hz0, hz1, hz2⟩ := info_parts info_bs
  have := run_make (P := Tryz.prog) w /-t-/37 /-t-/24 i0 (.slice none 0 0) under_bs hi hz0 .i64 .i64 n n (by omega) (by omega) (by rw [hz2]; omega) (by omega)
  rw [hz1, Int.toNat_natCast, Nat.mul_one] at this
  exact this
end Go.Proofs.YtlbdopcchoklhaaGreat
namespace Go.Proofs.YtlbdopcchoklhaaGreat
open Go.RowKit
set_option linter.unusedVariables false
set_option maxRecDepth 100000

/-! ### has -/
def hasE (d : Dev) (P : PutP) : Int := if readE d P.pl = 20 then 0 else readE d P.pl
/-- A write that is handed tto a keeper. -/
structure PutA (w : World) (F : Nat → Prop) (K sb so sC : Nat) (P : PutP) : Prop where
  row : RowV w (.slice (some ⟨sb, so, none⟩) P.n sC) P.n P.z
  off : ¬ F sb
  ne : sb ≠ K
  lt : sb < w.heap.size
section
variable {base : Nat} {F : Nat → Prop} {w wr w' : World} {B K c sb so sC t : Nat} {d d' : Dev} {P : PutP}
theorem PutA.gr (h : PutA w F K sb so sC P) (k : Ch (fun _ => False) w w') : PutA w' F K sb so sC P := ⟨h.row.gr k, h.off, h.ne, Nat.lt_of_lt_of_le h.lt k.size⟩
theorem PutA.now (h : PutA w F K sb so sC P) (q : KpS base F w wr B K d c) : PutA wr (FN F w wr) K sb so sC P := ⟨q.row h.row h.off h.ne, fun x => x.elim h.off fun y => by have := h.lt; omega, h.ne, Nat.lt_of_lt_of_le h.lt q.ch.size⟩
/-- A new variable of before stands. -/
theorem KpS.cell {H i : Nat} {v : Value} (h : KpS base F w wr B K d c) (hc : w.cell? ⟨H, i, none⟩ = some v) (hH : ¬ F H ∧ H ≠ K) : wr.cell? ⟨H, i, none⟩ = some v := h.ch.cell hc fun x => x.elim hH.1 hH.2
theorem KpF.new (hF : KpF base F w K) {H : Nat} (h : w.heap.size = H) : ¬ F H ∧ H ≠ K := ⟨fun x => by have := (hF.low H x).2; omega, by have := hF.lt; omega⟩
end
set_option maxHeartbeats 1600000 in
theorem has_any (base : Nat) (F : Nat → Prop) (B K c sb so sC t : Nat) (d : Dev) (P : PutP) (w : World) (h : KpS base F w w B K d c) (hF : KpF base F w K) (hP : PutA w F K sb so sC P) (hl : Lim d t) (ht : t ≤ 1000000) :
    Calls Tryz.prog 142 #[.pointer (some ⟨K, 0, none⟩), .agg #[.int .i64 P.pl, .slice (some ⟨sb, so, none⟩) P.n sC]] w fun e w' => e = .returned (.tuple #[.bool (asP d P), .int .i64 (hasE d P)]) ∧ KpS base F w w' B K (readD d P.pl) c := by
  obtain ⟨w1, H, hB⟩ := boxR w #[.int .i64 P.pl, .slice (some ⟨sb, so, none⟩) P.n sC] 35
  have HB := Lib.hid hB
  have h1 := h.reb hB.ch
  have k0 := h1.c0
  have x0 : w1.cell? ⟨H, 0, none⟩ = some (.int .i64 P.pl) := blk_cell hB.cx
  have x1 : w1.cell? ⟨H, 1, none⟩ = some (.slice (some ⟨sb, so, none⟩) P.n sC) := blk_cell hB.cx
  have HF := Lib.hid (hF.gr hB.ch.size)
  have HH := Lib.hid (hF.new hB.sz)
  have HP := Lib.hid (hP.gr hB.ch)
  have HR := Lib.hid ((h1.gr (Ch.refl _ w1).drew).read (a := P.pl) HF.out hl ht)
  obtain ⟨L, hL⟩ : ∃ L, L = readL d P.pl := ⟨_, rfl⟩
  obtain ⟨z, hz⟩ : ∃ z, z = readZ d P.pl := ⟨_, rfl⟩
  obtain ⟨E, hE⟩ : ∃ E, E = readE d P.pl := ⟨_, rfl⟩
  have HA := Lib.hid (show asP d P = (decide (E = 0) && eqB L P.n z P.z) ∧ hasE d P = (if E = 20 then 0 else E) by rw [hL, hz, hE]; exact ⟨rfl, rfl⟩)
  have HFIN := Lib.hid (show ∀ w' v, KpS base F w1 w' B K (readD d P.pl) c → .tuple #[.bool (asP d P), .int .i64 (hasE d P)] = v → Ending.returned v = .returned (.tuple #[.bool (asP d P), .int .i64 (hasE d P)]) ∧ KpS base F w w' B K (readD d P.pl) c from fun w' v q e => ⟨by rw [e], q.since HB.out.ch⟩)
  rw [← hL, ← hz, ← hE] at HR
  clear h hB h1 hF hP hL hz hE
  go_enter Tryz.func142, Tryz.ntmps142
  go_wp2_with (first
    | ((with_reducible refine wpList_isOp (.box 35 (.tmp 1)) rfl ?_); refine wpList_boxing _ w1 rfl 35 (.tmp 1) rfl #[.int .i64 P.pl, .slice (some ⟨sb, so, none⟩) P.n sC] H rfl (by exact HB.out.sz) (by exact HB.out.al) ?_)
    | fail)
  go_region_held3 (fun w' => w'.cell? ⟨K, 0, none⟩ = some (.pointer (some ⟨B, 0, none⟩)) ∧ w'.cell? ⟨H, 0, none⟩ = some (.int .i64 P.pl)) (first | go_keep | exact ⟨ka, kb⟩)
    (first
      | (go_at_call 94; refine HR.out.mono ?_; rintro e w2 ⟨A, C, rfl, hr, hs⟩; have ka := hs.c0; have kb := hs.cell x0 HH.out))
  have y1 := hs.cell x1 HH.out
  have HEQ := Lib.hid (equal_any _ _ _ _ _ _ _ _ w2 hr (hs.row HP.out.row HP.out.off HP.out.ne))
  have HS := Lib.hid hs
  clear hr hs HR
  by_cases q : E = 20
  · subst q
    have HD := Lib.hid (HFIN.out w2 (.tuple #[.bool false, .int .i64 0]) HS.out (by rw [HA.out.1, HA.out.2]; rfl))
    go_wp2
    go_ret2
    exact HD.out
  · have t1 : (E == 20) = false := by simpa using q
    by_cases q0 : E = 0
    · subst q0
      have HD := Lib.hid (HFIN.out w2 (.tuple #[.bool (eqB L P.n z P.z), .int .i64 0]) HS.out (by rw [HA.out.1, HA.out.2, decide_eq_true rfl, Bool.true_and]; rfl))
      clear t1 q
      go_wp2_with fail
      refine HEQ.out.mono ?_
      rintro e w3 ⟨rfl, rfl⟩
      go_wp2
      go_ret2
      exact HD.out
    · have t2 : (E == 0) = false := by simpa using q0
      have HD := Lib.hid (HFIN.out w2 (.tuple #[.bool false, .int .i64 E]) HS.out (by rw [HA.out.1, HA.out.2, decide_eq_false q0, if_neg q]; rfl))
      clear q q0
      go_wp2
      go_ret2
      exact HD.out
/-! ### try -/
def tE (d : Dev) (P : PutP) : Int := if tryE d P = -1 then 0 else tryE d P
theorem try_one {d : Dev} {P : PutP} (h : ¬ writeE d P.pl P.n = 0) : tryE d P = writeE d P.pl P.n ∧ tryD d P = kwD d P ∧ decide (tryE d P = 0) = false ∧ tE d P = writeE d P.pl P.n := by
  have e1 : tryE d P = writeE d P.pl P.n := if_neg h
  refine ⟨e1, if_neg h, decide_eq_false (by rw [e1]; exact h), ?_⟩
  unfold tE
  rw [e1, if_neg writeE_ne]
theorem try_two {d : Dev} {P : PutP} (h : writeE d P.pl P.n = 0) (h2 : ¬ flushE (kwD d P) = 0) : tryD d P = kfD d P ∧ decide (tryE d P = 0) = false ∧ tE d P = flushE (kwD d P) := by
  have e1 : tryE d P = flushE (kwD d P) := by unfold tryE; rw [if_pos h, if_neg h2]
  refine ⟨by unfold tryD; rw [if_pos h, if_neg h2], decide_eq_false (by rw [e1]; exact h2), ?_⟩
  unfold tE
  rw [e1, if_neg flushE_ne]
theorem try_three {d : Dev} {P : PutP} (h : writeE d P.pl P.n = 0) (h2 : flushE (kwD d P) = 0) : tryD d P = krD d P ∧ decide (tryE d P = 0) = asP (kfD d P) P ∧ tE d P = hasE (kfD d P) P := by
  have e1 : tryE d P = (if readE (kfD d P) P.pl = 0 ∨ readE (kfD d P) P.pl = 20 then (if asP (kfD d P) P then 0 else -1) else readE (kfD d P) P.pl) := by unfold tryE; rw [if_pos h, if_pos h2]
  refine ⟨by unfold tryD; rw [if_pos h, if_pos h2], ?_⟩
  unfold tE hasE
  rw [e1]
  by_cases q : readE (kfD d P) P.pl = 0 ∨ readE (kfD d P) P.pl = 20
  · rw [if_pos q]
    cases ha : asP (kfD d P) P
    · refine ⟨by decide, ?_⟩
      rcases q with q | q <;> rw [q] <;> decide
    · refine ⟨by decide, ?_⟩
      rcases q with q | q <;> rw [q] <;> decide
  · rw [if_neg q, if_neg readE_ne, if_neg (fun x => q (Or.inr x))]
    refine ⟨?_, rfl⟩
    rw [decide_eq_false (fun x => q (Or.inl x))]
    unfold asP
    rw [decide_eq_false (fun x => q (Or.inl x))]
    rfl
set_option maxHeartbeats 1600000 in
theorem try_any (base : Nat) (F : Nat → Prop) (B K c sb so sC t : Nat) (d : Dev) (P : PutP) (w : World) (h : KpS base F w w B K d c) (hF : KpF base F w K) (hP : PutA w F K sb so sC P) (hl : Lim d t) (hm : LimM d t) (ht : t ≤ 999990) :
    Calls Tryz.prog 120 #[.pointer (some ⟨K, 0, none⟩), .agg #[.int .i64 P.pl, .slice (some ⟨sb, so, none⟩) P.n sC]] w fun e w' => e = .returned (.tuple #[.bool (decide (tryE d P = 0)), .int .i64 (tE d P)]) ∧ KpS base F w w' B K (tryD d P) c := by
  obtain ⟨w1, H, hB⟩ := boxR w #[.int .i64 P.pl, .slice (some ⟨sb, so, none⟩) P.n sC] 35
  have HB := Lib.hid hB
  have h1 := h.reb hB.ch
  have k0 := h1.c0
  have x0 : w1.cell? ⟨H, 0, none⟩ = some (.int .i64 P.pl) := blk_cell hB.cx
  have x1 : w1.cell? ⟨H, 1, none⟩ = some (.slice (some ⟨sb, so, none⟩) P.n sC) := blk_cell hB.cx
  have HF := Lib.hid (hF.gr hB.ch.size)
  have HH := Lib.hid (hF.new hB.sz)
  have HP := Lib.hid (hP.gr hB.ch)
  have HL1 := Lib.hid ((near_write d P.pl P.n P.z).lim hl hm)
  have HL2 := Lib.hid ((near_flush (kwD d P)).lim HL1.out.1 HL1.out.2)
  have HW := Lib.hid ((h1.gr (Ch.refl _ w1).drew).write (a := P.pl) HF.out HP.out.row HP.out.off HP.out.ne HP.out.lt hl (by omega))
  have HFIN := Lib.hid (show ∀ w' D X T, tryD d P = D → decide (tryE d P = 0) = X → tE d P = T → KpS base F w1 w' B K D c → Ending.returned (.tuple #[.bool X, .int .i64 T]) = .returned (.tuple #[.bool (decide (tryE d P = 0)), .int .i64 (tE d P)]) ∧ KpS base F w w' B K (tryD d P) c from fun w' D X T e1 e2 e3 q => ⟨by rw [e2, e3], by rw [e1]; exact q.since HB.out.ch⟩)
  have HT := Lib.hid ht
  clear h hB h1 hF hP hl hm ht
  go_enter Tryz.func120, Tryz.ntmps120
  go_wp2_with (first
    | ((with_reducible refine wpList_isOp (.box 35 (.tmp 1)) rfl ?_); refine wpList_boxing _ w1 rfl 35 (.tmp 1) rfl #[.int .i64 P.pl, .slice (some ⟨sb, so, none⟩) P.n sC] H rfl (by exact HB.out.sz) (by exact HB.out.al) ?_)
    | fail)
  go_still_tail 8, (by kernel_rfl)
  change wpList _ _ _ _ _ w1.drew
  by_cases q1 : writeE d P.pl P.n = 0
  · rw [q1] at HW
    go_wp2_with fail
    refine HW.out.mono ?_
    rintro e w2 ⟨rfl, hs2⟩
    have y0 := hs2.c0
    have HFL := Lib.hid (KpS.flush hs2 HF.out HL1.out.1 (by have := HT.out; omega))
    clear hs2 HW k0
    by_cases q2 : flushE (kwD d P) = 0
    · have HQ := Lib.hid (try_three q1 q2)
      rw [show flushE (writeD d P.pl P.n P.z) = 0 from q2] at HFL
      clear q1 q2
      go_wp2_with fail
      refine HFL.out.mono ?_
      rintro e w3 ⟨rfl, hs3⟩
      have y1 := hs3.cell x0 HH.out
      have y2 := hs3.cell x1 HH.out
      have ld := load_put y1 y2
      have HS3 : Hid (KpS base F w1 w3 B K (kfD d P) c) := Lib.hid hs3
      have HHAS := Lib.hid (HS3.out.lift (has_any base _ B K c sb so sC _ _ P w3 HS3.out.now (HF.out.fn HS3.out.ch.size) (HP.out.now HS3.out) HL2.out.1 (by have := HT.out; omega)))
      clear hs3 HFL y0 y1 y2
      go_wp2_with (first
        | ((with_reducible refine wpList_isOp (.load 35 (.tmp 3)) rfl ?_); refine wpList_loading _ rfl 35 (.tmp 3) rfl _ ⟨H, 0, none⟩ rfl ld ?_)
        | fail)
      refine HHAS.out.mono ?_
      rintro e w4 ⟨rfl, hs4⟩
      have HD := Lib.hid (HFIN.out w4 _ _ _ HQ.out.1 HQ.out.2.1 HQ.out.2.2 hs4)
      clear hs4 HHAS ld
      go_wp2
      go_ret2
      exact HD.out
    · have HQ := Lib.hid (try_two q1 q2)
      obtain ⟨E, hE⟩ : ∃ E, E = flushE (kwD d P) := ⟨_, rfl⟩
      rw [show flushE (writeD d P.pl P.n P.z) = E from hE.symm] at HFL
      rw [← hE] at HQ q2
      have t1 : (E != 0) = true := by simpa using q2
      clear q1 q2 hE
      go_wp2_with fail
      refine HFL.out.mono ?_
      rintro e w3 ⟨rfl, hs3⟩
      have HD := Lib.hid (HFIN.out w3 _ _ _ HQ.out.1 HQ.out.2.1 HQ.out.2.2 hs3)
      clear hs3 HFL y0
      go_wp2
      go_ret2
      exact HD.out
  · have HQ := Lib.hid (try_one q1)
    obtain ⟨E, hE⟩ : ∃ E, E = writeE d P.pl P.n := ⟨_, rfl⟩
    rw [← hE] at HQ HW q1
    have t1 : (E != 0) = true := by simpa using q1
    clear q1 hE
    go_wp2_with fail
    refine HW.out.mono ?_
    rintro e w2 ⟨rfl, hs2⟩
    have HD := Lib.hid (HFIN.out w2 _ _ _ HQ.out.2.1 HQ.out.2.2.1 HQ.out.2.2.2 hs2)
    clear hs2 HW
    go_wp2
    go_ret2
    exact HD.out
/-! ### write -/
theorem TryS.try {d e : Dev} {P : PutP} {t k : Nat} (h : TryS d P t k e) : Lim (tryD e P) (t + 3 * (k + 1)) ∧ LimM (tryD e P) (t + 3 * (k + 1)) := by
  have h1 := try_lim (P := P) h.lim h.limM
  exact ⟨h1.1.mono (by omega), h1.2.mono (by omega)⟩
theorem TryS.next {d e : Dev} {P : PutP} {t k : Nat} (h : TryS d P t k e) (hk : k < 4) (q : tryE e P = -1) : TryS d P t (k + 1) (tryD e P) := by
  obtain ⟨h1, h2⟩ := h.step hk
  rw [if_pos q] at h1 h2
  exact ⟨h1, h2, h.try.1, h.try.2⟩
theorem TryS.last {d e : Dev} {P : PutP} {t k : Nat} (h : TryS d P t k e) (hk : k < 4) (q : ¬ tryE e P = -1) : kepE 4 d P = tryE e P ∧ kepD 4 d P = tryD e P := by
  obtain ⟨h1, h2⟩ := h.step hk
  rw [if_neg q] at h1 h2
  exact ⟨h1, h2⟩
/-- How many it has written by then. -/
def kepC (d : Dev) (P : PutP) (c : Nat) : Nat := if kepE 4 d P = 0 then c + 1 else c
set_option maxHeartbeats 1600000 in
theorem kwrite_any (base : Nat) (F : Nat → Prop) (B K c sb so sC t : Nat) (d : Dev) (P : PutP) (w : World) (h : KpS base F w w B K d c) (hF : KpF base F w K) (hP : PutA w F K sb so sC P) (hl : Lim d t) (hm : LimM d t) (ht : t ≤ 999900) (hc : c ≤ 1048576) :
    Calls Tryz.prog 87 #[.pointer (some ⟨K, 0, none⟩), .agg #[.int .i64 P.pl, .slice (some ⟨sb, so, none⟩) P.n sC]] w fun e w' => e = .returned (.int .i64 (kepE 4 d P)) ∧ KpS base F w w' B K (kepD 4 d P) (kepC d P c) := by
  obtain ⟨w1, H, hB⟩ := boxR w #[.int .i64 P.pl, .slice (some ⟨sb, so, none⟩) P.n sC] 35
  have HB := Lib.hid hB
  have HX := Lib.hid (show w1.cell? ⟨H, 0, none⟩ = some (.int .i64 P.pl) ∧ w1.cell? ⟨H, 1, none⟩ = some (.slice (some ⟨sb, so, none⟩) P.n sC) from ⟨blk_cell hB.cx, blk_cell hB.cx⟩)
  have HF := Lib.hid (hF.gr hB.ch.size)
  have HH := Lib.hid (hF.new hB.sz)
  have HP := Lib.hid (hP.gr hB.ch)
  have HS := Lib.hid (h.reb hB.ch)
  have HT : Hid (TryS d P t 0 d) := ⟨rfl, rfl, hl, hm⟩
  have HFIN := Lib.hid (show ∀ w' D E C, kepD 4 d P = D → kepE 4 d P = E → (kepC d P c) = C → KpS base F w1 w' B K D C → Ending.returned (.int .i64 E) = .returned (.int .i64 (kepE 4 d P)) ∧ KpS base F w w' B K (kepD 4 d P) (kepC d P c) from fun w' D E C e1 e2 e3 q => ⟨by rw [e2], by rw [e1, e3]; exact q.since HB.out.ch⟩)
  have HTT := Lib.hid ht
  clear h hB hF hP hl hm ht
  go_enter Tryz.func87, Tryz.ntmps87
  go_wp2_with (first
    | ((with_reducible refine wpList_isOp (.box 35 (.tmp 1)) rfl ?_); refine wpList_boxing _ w1 rfl 35 (.tmp 1) rfl #[.int .i64 P.pl, .slice (some ⟨sb, so, none⟩) P.n sC] H rfl (by exact HB.out.sz) (by exact HB.out.al) ?_)
    | fail)
  go_loopw [5, 6, 7, 8, 9, 10, 11, 12, 13, 14, 15, 16, 17, 18, 19, 20, 21, 22, 23, 24, 25, 26] (fun _ _ i _ _ _ _ _ _ _ _ _ _ _ _ _ _ _ _ _ _ _ wr => ∃ (k : Nat) (e : Dev), k ≤ 4 ∧ i = .int .i64 k ∧ Hid (TryS d P t k e) ∧ Hid (KpS base F w1 wr B K e c)) (fun _ _ i _ _ _ _ _ _ _ _ _ _ _ _ _ _ _ _ _ _ _ _ => 4 - (intOf i).toNat)
  case atStart => exact ⟨0, d, Nat.zero_le _, rfl, HT, HS⟩
  case round =>
    obtain ⟨k, e, hk, rfl, HK, HD⟩ := hrel
    clear HT HS
    by_cases hlt : k < 4
    · have ld := load_put (HD.out.cell HX.out.1 HH.out) (HD.out.cell HX.out.2 HH.out)
      have HTRY := Lib.hid (HD.out.lift (try_any base _ B K c sb so sC _ e P wr HD.out.now (HF.out.fn HD.out.ch.size) (HP.out.now HD.out) HK.out.lim HK.out.limM (by have := HTT.out; omega)))
      have HLT := Lib.hid hlt
      clear HD
      by_cases q : tryE e P = -1
      · have HN := Lib.hid (HK.out.next hlt q)
        rw [show decide (tryE e P = 0) = false by rw [q]; rfl, show tE e P = 0 by unfold tE; rw [if_pos q]] at HTRY
        clear q
        go_wp2_with (first
          | ((with_reducible refine wpList_isOp (.load 35 (.tmp 3)) rfl ?_); refine wpList_loading _ rfl 35 (.tmp 3) rfl _ ⟨H, 0, none⟩ rfl ld ?_)
          | fail)
        refine HTRY.out.mono ?_
        rintro e1 w2 ⟨rfl, hs2⟩
        have HS2 := Lib.hid hs2
        clear hs2 HTRY ld
        go_wp2
        go_roundw
        case rel => exact ⟨k + 1, tryD e P, by omega, by go_num, HN, HS2⟩
        case measure => simp [intOf]; omega
      · have HLA := Lib.hid (HK.out.last hlt q)
        obtain ⟨T, hT⟩ : ∃ T, T = tryE e P := ⟨_, rfl⟩
        rw [← hT] at HLA
        by_cases q0 : T = 0
        · subst q0
          rw [show decide (tryE e P = 0) = true by rw [← hT]; rfl, show tE e P = 0 by unfold tE; rw [if_neg q, ← hT]] at HTRY
          clear q hT
          go_wp2_with (first
            | ((with_reducible refine wpList_isOp (.load 35 (.tmp 3)) rfl ?_); refine wpList_loading _ rfl 35 (.tmp 3) rfl _ ⟨H, 0, none⟩ rfl ld ?_)
            | fail)
          refine HTRY.out.mono ?_
          rintro e1 w2 ⟨rfl, hs2⟩
          have y1 := hs2.c1
          have f1 := hs2.fr 1
          have HD2 := Lib.hid (fun x hx => HFIN.out (w2.setCell ⟨K, 1, none⟩ x) _ _ _ HLA.out.2 HLA.out.1 (if_pos HLA.out.1) (hs2.more HF.out hx))
          clear hs2 HTRY ld
          go_wp2
          go_ret
          exact HD2.out _ (by go_num)
        · have t1 : (T != 0) = true := by simpa using q0
          rw [show decide (tryE e P = 0) = false by rw [← hT]; exact decide_eq_false q0, show tE e P = T by unfold tE; rw [if_neg q, ← hT]] at HTRY
          have HQ0 := Lib.hid q0
          clear q hT q0
          go_wp2_with (first
            | ((with_reducible refine wpList_isOp (.load 35 (.tmp 3)) rfl ?_); refine wpList_loading _ rfl 35 (.tmp 3) rfl _ ⟨H, 0, none⟩ rfl ld ?_)
            | fail)
          refine HTRY.out.mono ?_
          rintro e1 w2 ⟨rfl, hs2⟩
          have HD2 := Lib.hid (HFIN.out w2 _ _ _ HLA.out.2 HLA.out.1 (if_neg (by rw [HLA.out.1]; exact HQ0.out)) hs2)
          clear hs2 HTRY ld
          go_wp2
          go_ret
          exact HD2.out
    · obtain rfl : k = 4 := by omega
      have HD2 := Lib.hid (HFIN.out wr _ _ _ HK.out.D (show kepE 4 d P = 22 from HK.out.E) (if_neg (by rw [HK.out.E]; exact (by decide : ¬ (22 : Int) = 0))) HD.out)
      clear hlt
      go_wp2
      go_ret
      exact HD2.out
/-! ### mend -/
/-- What mend does with one of them. -/
def mendOne (d : Dev) (P : PutP) (c : Nat) : MendS :=
  if readE d P.pl = 0 ∨ readE d P.pl = 20 then (if asP d P then ⟨readD d P.pl, 0, c⟩ else ⟨kepD 4 (readD d P.pl) P, kepE 4 (readD d P.pl) P, kepC (readD d P.pl) P c⟩) else ⟨readD d P.pl, readE d P.pl, c⟩
end Go.Proofs.YtlbdopcchoklhaaGreat
