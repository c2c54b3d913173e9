/-
  keep's keeper, walked: has, try, write, mend. keep, walked: each, One, All, Mend.
-/
import Derived.Test.YteleknojohnlbaaGreatMc21
namespace Go.Proofs.YteleknojohnlbaaGreat
open Go.RowKit
set_option linter.unusedVariables false
set_option maxRecDepth 100000
def hasE (d : Dev) (P : PutP) : Int := if readE d P.pl = 20 then 0 else readE d P.pl
structure PutA (w : World) (F : Nat → Prop) (K sb so sC : Nat) (P : PutP) : Prop where
  row : RowV w (.slice (some ⟨sb, so, none⟩) P.n sC) P.n P.z
  off : ¬ F sb
  ne : sb ≠ K
  lt : sb < w.heap.size
section
variable {base : Nat} {F : Nat → Prop} {w wr w' : World} {B K c sb so sC t : Nat} {d d' : Dev} {P : PutP}
theorem PutA.gr (h : PutA w F K sb so sC P) (k : Ch (fun _ => False) w w') : PutA w' F K sb so sC P := ⟨h.row.gr k, h.off, h.ne, Nat.lt_of_lt_of_le h.lt k.size⟩
theorem PutA.now (h : PutA w F K sb so sC P) (q : KpS base F w wr B K d c) : PutA wr (FN F w wr) K sb so sC P := ⟨q.row h.row h.off h.ne, fun x => x.elim h.off fun y => by have := h.lt; omega, h.ne, Nat.lt_of_lt_of_le h.lt q.ch.size⟩
theorem KpS.cell {H i : Nat} {v : Value} (h : KpS base F w wr B K d c) (hc : w.cell? ⟨H, i, none⟩ = some v) (hH : ¬ F H ∧ H ≠ K) : wr.cell? ⟨H, i, none⟩ = some v := h.ch.cell hc fun x => x.elim hH.1 hH.2
theorem KpF.new (hF : KpF base F w K) {H : Nat} (h : w.heap.size = H) : ¬ F H ∧ H ≠ K := ⟨fun x => by have := (hF.low H x).2; omega, by have := hF.lt; omega⟩
end
set_option maxHeartbeats 1600000 in
theorem has_any (base : Nat) (F : Nat → Prop) (B K c sb so sC t : Nat) (d : Dev) (P : PutP) (w : World) (h : KpS base F w w B K d c) (hF : KpF base F w K) (hP : PutA w F K sb so sC P) (hl : Lim d t) (ht : t ≤ 1000000) :
    Calls Tryz.prog 141 #[.pointer (some ⟨K, 0, none⟩), .agg #[.int .i64 P.pl, .slice (some ⟨sb, so, none⟩) P.n sC]] w fun e w' => e = .returned (.tuple #[.bool (asP d P), .int .i64 (hasE d P)]) ∧ KpS base F w w' B K (readD d P.pl) c := by
  obtain ⟨w1, H, hB⟩ := boxR w #[.int .i64 P.pl, .slice (some ⟨sb, so, none⟩) P.n sC] 164
  have HB := Lib.hid hB
  have h1 := h.reb hB.ch
  have k0 := h1.c0
  have x0 : w1.cell? ⟨H, 0, none⟩ = some (.int .i64 P.pl) := blk_cell hB.cx
  have x1 : w1.cell? ⟨H, 1, none⟩ = some (.slice (some ⟨sb, so, none⟩) P.n sC) := blk_cell hB.cx
  have HF := Lib.hid (hF.gr hB.ch.size)
  have HH := Lib.hid (hF.new hB.sz)
  have HP := Lib.hid (hP.gr hB.ch)
  have HR := Lib.hid ((h1.gr (Ch.refl _ w1).drew).read (a := P.pl) HF.out hl ht)
  obtain ⟨L, hL⟩ : ∃ L, L = readL d P.pl := ⟨_, rfl⟩
  obtain ⟨z, hz⟩ : ∃ z, z = readZ d P.pl := ⟨_, rfl⟩
  obtain ⟨E, hE⟩ : ∃ E, E = readE d P.pl := ⟨_, rfl⟩
  have HA := Lib.hid (show asP d P = (decide (E = 0) && eqB L P.n z P.z) ∧ hasE d P = (if E = 20 then 0 else E) by rw [hL, hz, hE]; exact ⟨rfl, rfl⟩)
  have HFIN := Lib.hid (show ∀ w' v, KpS base F w1 w' B K (readD d P.pl) c → .tuple #[.bool (asP d P), .int .i64 (hasE d P)] = v → Ending.returned v = .returned (.tuple #[.bool (asP d P), .int .i64 (hasE d P)]) ∧ KpS base F w w' B K (readD d P.pl) c from fun w' v q e => ⟨by rw [e], q.since HB.out.ch⟩)
  rw [← hL, ← hz, ← hE] at HR
  clear h hB h1 hF hP hL hz hE
  go_enter Tryz.func141, Tryz.ntmps141
  go_wp2_with (first
    | ((with_reducible refine wpList_isOp (.box 164 (.tmp 1)) rfl ?_); refine wpList_boxing _ w1 rfl 164 (.tmp 1) rfl #[.int .i64 P.pl, .slice (some ⟨sb, so, none⟩) P.n sC] H rfl (by exact HB.out.sz) (by exact HB.out.al) ?_)
    | fail)
  go_region_held3 (fun w' => w'.cell? ⟨K, 0, none⟩ = some (.pointer (some ⟨B, 0, none⟩)) ∧ w'.cell? ⟨H, 0, none⟩ = some (.int .i64 P.pl)) (first | go_keep | exact ⟨ka, kb⟩)
    (first
      | (go_at_call 108; refine HR.out.mono ?_; rintro e w2 ⟨A, C, rfl, hr, hs⟩; have ka := hs.c0; have kb := hs.cell x0 HH.out))
  have y1 := hs.cell x1 HH.out
  have HEQ := Lib.hid (equal_any _ _ _ _ _ _ _ _ w2 hr (hs.row HP.out.row HP.out.off HP.out.ne))
  have HS := Lib.hid hs
  clear hr hs HR
  by_cases q : E = 20
  · subst q
    have HD := Lib.hid (HFIN.out w2 (.tuple #[.bool false, .int .i64 0]) HS.out (by rw [HA.out.1, HA.out.2]; rfl))
    go_wp2
    go_ret2
    exact HD.out
  · have t1 : (E == 20) = false := by simpa using q
    by_cases q0 : E = 0
    · subst q0
      have HD := Lib.hid (HFIN.out w2 (.tuple #[.bool (eqB L P.n z P.z), .int .i64 0]) HS.out (by rw [HA.out.1, HA.out.2, decide_eq_true rfl, Bool.true_and]; rfl))
      clear t1 q
      go_wp2_with fail
      refine HEQ.out.mono ?_
      rintro e w3 ⟨rfl, rfl⟩
      go_wp2
      go_ret2
      exact HD.out
    · have t2 : (E == 0) = false := by simpa using q0
      have HD := Lib.hid (HFIN.out w2 (.tuple #[.bool false, .int .i64 E]) HS.out (by rw [HA.out.1, HA.out.2, decide_eq_false q0, if_neg q]; rfl))
      clear q q0
      go_wp2
      go_ret2
      exact HD.out
def tE (d : Dev) (P : PutP) : Int := if tryE d P = -1 then 0 else tryE d P
theorem try_one {d : Dev} {P : PutP} (h : ¬ writeE d P.pl P.n = 0) : tryE d P = writeE d P.pl P.n ∧ tryD d P = kwD d P ∧ decide (tryE d P = 0) = false ∧ tE d P = writeE d P.pl P.n := by
  have e1 : tryE d P = writeE d P.pl P.n := if_neg h
  refine ⟨e1, if_neg h, decide_eq_false (by rw [e1]; exact h), ?_⟩
  unfold tE
  rw [e1, if_neg writeE_ne]
theorem try_two {d : Dev} {P : PutP} (h : writeE d P.pl P.n = 0) (h2 : ¬ flushE (kwD d P) = 0) : tryD d P = kfD d P ∧ decide (tryE d P = 0) = false ∧ tE d P = flushE (kwD d P) := by
  have e1 : tryE d P = flushE (kwD d P) := by unfold tryE; rw [if_pos h, if_neg h2]
  refine ⟨by unfold tryD; rw [if_pos h, if_neg h2], decide_eq_false (by rw [e1]; exact h2), ?_⟩
  unfold tE
  rw [e1, if_neg flushE_ne]
theorem try_three {d : Dev} {P : PutP} (h : writeE d P.pl P.n = 0) (h2 : flushE (kwD d P) = 0) : tryD d P = krD d P ∧ decide (tryE d P = 0) = asP (kfD d P) P ∧ tE d P = hasE (kfD d P) P := by
  have e1 : tryE d P = (if readE (kfD d P) P.pl = 0 ∨ readE (kfD d P) P.pl = 20 then (if asP (kfD d P) P then 0 else -1) else readE (kfD d P) P.pl) := by unfold tryE; rw [if_pos h, if_pos h2]
  refine ⟨by unfold tryD; rw [if_pos h, if_pos h2], ?_⟩
  unfold tE hasE
  rw [e1]
  by_cases q : readE (kfD d P) P.pl = 0 ∨ readE (kfD d P) P.pl = 20
  · rw [if_pos q]
    cases ha : asP (kfD d P) P
    · refine ⟨by decide, ?_⟩
      rcases q with q | q <;> rw [q] <;> decide
    · refine ⟨by decide, ?_⟩
      rcases q with q | q <;> rw [q] <;> decide
  · rw [if_neg q, if_neg readE_ne, if_neg (fun x => q (Or.inr x))]
    refine ⟨?_, rfl⟩
    rw [decide_eq_false (fun x => q (Or.inl x))]
    unfold asP
    rw [decide_eq_false (fun x => q (Or.inl x))]
    rfl
set_option maxHeartbeats 1600000 in
theorem try_any (base : Nat) (F : Nat → Prop) (B K c sb so sC t : Nat) (d : Dev) (P : PutP) (w : World) (h : KpS base F w w B K d c) (hF : KpF base F w K) (hP : PutA w F K sb so sC P) (hl : Lim d t) (hm : LimM d t) (ht : t ≤ 999990) :
    Calls Tryz.prog 135 #[.pointer (some ⟨K, 0, none⟩), .agg #[.int .i64 P.pl, .slice (some ⟨sb, so, none⟩) P.n sC]] w fun e w' => e = .returned (.tuple #[.bool (decide (tryE d P = 0)), .int .i64 (tE d P)]) ∧ KpS base F w w' B K (tryD d P) c := by
  obtain ⟨w1, H, hB⟩ := boxR w #[.int .i64 P.pl, .slice (some ⟨sb, so, none⟩) P.n sC] 164
  have HB := Lib.hid hB
  have h1 := h.reb hB.ch
  have k0 := h1.c0
  have x0 : w1.cell? ⟨H, 0, none⟩ = some (.int .i64 P.pl) := blk_cell hB.cx
  have x1 : w1.cell? ⟨H, 1, none⟩ = some (.slice (some ⟨sb, so, none⟩) P.n sC) := blk_cell hB.cx
  have HF := Lib.hid (hF.gr hB.ch.size)
  have HH := Lib.hid (hF.new hB.sz)
  have HP := Lib.hid (hP.gr hB.ch)
  have HL1 := Lib.hid ((near_write d P.pl P.n P.z).lim hl hm)
  have HL2 := Lib.hid ((near_flush (kwD d P)).lim HL1.out.1 HL1.out.2)
  have HW := Lib.hid ((h1.gr (Ch.refl _ w1).drew).write (a := P.pl) HF.out HP.out.row HP.out.off HP.out.ne HP.out.lt hl (by omega))
  have HFIN := Lib.hid (show ∀ w' D X T, tryD d P = D → decide (tryE d P = 0) = X → tE d P = T → KpS base F w1 w' B K D c → Ending.returned (.tuple #[.bool X, .int .i64 T]) = .returned (.tuple #[.bool (decide (tryE d P = 0)), .int .i64 (tE d P)]) ∧ KpS base F w w' B K (tryD d P) c from fun w' D X T e1 e2 e3 q => ⟨by rw [e2, e3], by rw [e1]; exact q.since HB.out.ch⟩)
  have HT := Lib.hid ht
  clear h hB h1 hF hP hl hm ht
  go_enter Tryz.func135, Tryz.ntmps135
  go_wp2_with (first
    | ((with_reducible refine wpList_isOp (.box 164 (.tmp 1)) rfl ?_); refine wpList_boxing _ w1 rfl 164 (.tmp 1) rfl #[.int .i64 P.pl, .slice (some ⟨sb, so, none⟩) P.n sC] H rfl (by exact HB.out.sz) (by exact HB.out.al) ?_)
    | fail)
  go_still_tail 8, (by kernel_rfl)
  change wpList _ _ _ _ _ w1.drew
  by_cases q1 : writeE d P.pl P.n = 0
  · rw [q1] at HW
    go_wp2_with fail
    refine HW.out.mono ?_
    rintro e w2 ⟨rfl, hs2⟩
    have y0 := hs2.c0
    have HFL := Lib.hid (KpS.flush hs2 HF.out HL1.out.1 (by have := HT.out; omega))
    clear hs2 HW k0
    by_cases q2 : flushE (kwD d P) = 0
    · have HQ := Lib.hid (try_three q1 q2)
      rw [show flushE (writeD d P.pl P.n P.z) = 0 from q2] at HFL
      clear q1 q2
      go_wp2_with fail
      refine HFL.out.mono ?_
      rintro e w3 ⟨rfl, hs3⟩
      have y1 := hs3.cell x0 HH.out
      have y2 := hs3.cell x1 HH.out
      have ld := load_put y1 y2
      have HS3 : Hid (KpS base F w1 w3 B K (kfD d P) c) := Lib.hid hs3
      have HHAS := Lib.hid (HS3.out.lift (has_any base _ B K c sb so sC _ _ P w3 HS3.out.now (HF.out.fn HS3.out.ch.size) (HP.out.now HS3.out) HL2.out.1 (by have := HT.out; omega)))
      clear hs3 HFL y0 y1 y2
      go_wp2_with (first
        | ((with_reducible refine wpList_isOp (.load 164 (.tmp 3)) rfl ?_); refine wpList_loading _ rfl 164 (.tmp 3) rfl _ ⟨H, 0, none⟩ rfl ld ?_)
        | fail)
      refine HHAS.out.mono ?_
      rintro e w4 ⟨rfl, hs4⟩
      have HD := Lib.hid (HFIN.out w4 _ _ _ HQ.out.1 HQ.out.2.1 HQ.out.2.2 hs4)
      clear hs4 HHAS ld
      go_wp2
      go_ret2
      exact HD.out
    · have HQ := Lib.hid (try_two q1 q2)
      obtain ⟨E, hE⟩ : ∃ E, E = flushE (kwD d P) := ⟨_, rfl⟩
      rw [show flushE (writeD d P.pl P.n P.z) = E from hE.symm] at HFL
      rw [← hE] at HQ q2
      have t1 : (E != 0) = true := by simpa using q2
      clear q1 q2 hE
      go_wp2_with fail
      refine HFL.out.mono ?_
      rintro e w3 ⟨rfl, hs3⟩
      have HD := Lib.hid (HFIN.out w3 _ _ _ HQ.out.1 HQ.out.2.1 HQ.out.2.2 hs3)
      clear hs3 HFL y0
      go_wp2
      go_ret2
      exact HD.out
  · have HQ := Lib.hid (try_one q1)
    obtain ⟨E, hE⟩ : ∃ E, E = writeE d P.pl P.n := ⟨_, rfl⟩
    rw [← hE] at HQ HW q1
    have t1 : (E != 0) = true := by simpa using q1
    clear q1 hE
    go_wp2_with fail
    refine HW.out.mono ?_
    rintro e w2 ⟨rfl, hs2⟩
    have HD := Lib.hid (HFIN.out w2 _ _ _ HQ.out.2.1 HQ.out.2.2.1 HQ.out.2.2.2 hs2)
    clear hs2 HW
    go_wp2
    go_ret2
    exact HD.out
theorem TryS.try {d e : Dev} {P : PutP} {t k : Nat} (h : TryS d P t k e) : Lim (tryD e P) (t + 3 * (k + 1)) ∧ LimM (tryD e P) (t + 3 * (k + 1)) := by
  have h1 := try_lim (P := P) h.lim h.limM
  exact ⟨h1.1.mono (by omega), h1.2.mono (by omega)⟩
theorem TryS.next {d e : Dev} {P : PutP} {t k : Nat} (h : TryS d P t k e) (hk : k < 4) (q : tryE e P = -1) : TryS d P t (k + 1) (tryD e P) := by
  obtain ⟨h1, h2⟩ := h.step hk
  rw [if_pos q] at h1 h2
  exact ⟨h1, h2, h.try.1, h.try.2⟩
theorem TryS.last {d e : Dev} {P : PutP} {t k : Nat} (h : TryS d P t k e) (hk : k < 4) (q : ¬ tryE e P = -1) : kepE 4 d P = tryE e P ∧ kepD 4 d P = tryD e P := by
  obtain ⟨h1, h2⟩ := h.step hk
  rw [if_neg q] at h1 h2
  exact ⟨h1, h2⟩
def kepC (d : Dev) (P : PutP) (c : Nat) : Nat := if kepE 4 d P = 0 then c + 1 else c
set_option maxHeartbeats 1600000 in
theorem kwrite_any (base : Nat) (F : Nat → Prop) (B K c sb so sC t : Nat) (d : Dev) (P : PutP) (w : World) (h : KpS base F w w B K d c) (hF : KpF base F w K) (hP : PutA w F K sb so sC P) (hl : Lim d t) (hm : LimM d t) (ht : t ≤ 999900) (hc : c ≤ 1048576) :
    Calls Tryz.prog 128 #[.pointer (some ⟨K, 0, none⟩), .agg #[.int .i64 P.pl, .slice (some ⟨sb, so, none⟩) P.n sC]] w fun e w' => e = .returned (.int .i64 (kepE 4 d P)) ∧ KpS base F w w' B K (kepD 4 d P) (kepC d P c) := by
  obtain ⟨w1, H, hB⟩ := boxR w #[.int .i64 P.pl, .slice (some ⟨sb, so, none⟩) P.n sC] 164
  have HB := Lib.hid hB
  have HX := Lib.hid (show w1.cell? ⟨H, 0, none⟩ = some (.int .i64 P.pl) ∧ w1.cell? ⟨H, 1, none⟩ = some (.slice (some ⟨sb, so, none⟩) P.n sC) from ⟨blk_cell hB.cx, blk_cell hB.cx⟩)
  have HF := Lib.hid (hF.gr hB.ch.size)
  have HH := Lib.hid (hF.new hB.sz)
  have HP := Lib.hid (hP.gr hB.ch)
  have HS := Lib.hid (h.reb hB.ch)
  have HT : Hid (TryS d P t 0 d) := ⟨rfl, rfl, hl, hm⟩
  have HFIN := Lib.hid (show ∀ w' D E C, kepD 4 d P = D → kepE 4 d P = E → (kepC d P c) = C → KpS base F w1 w' B K D C → Ending.returned (.int .i64 E) = .returned (.int .i64 (kepE 4 d P)) ∧ KpS base F w w' B K (kepD 4 d P) (kepC d P c) from fun w' D E C e1 e2 e3 q => ⟨by rw [e2], by rw [e1, e3]; exact q.since HB.out.ch⟩)
  have HTT := Lib.hid ht
  clear h hB hF hP hl hm ht
  go_enter Tryz.func128, Tryz.ntmps128
  go_wp2_with (first
    | ((with_reducible refine wpList_isOp (.box 164 (.tmp 1)) rfl ?_); refine wpList_boxing _ w1 rfl 164 (.tmp 1) rfl #[.int .i64 P.pl, .slice (some ⟨sb, so, none⟩) P.n sC] H rfl (by exact HB.out.sz) (by exact HB.out.al) ?_)
    | fail)
  go_loopw [5, 6, 7, 8, 9, 10, 11, 12, 13, 14, 15, 16, 17, 18, 19, 20, 21, 22, 23, 24, 25, 26] (fun _ _ i _ _ _ _ _ _ _ _ _ _ _ _ _ _ _ _ _ _ _ wr => ∃ (k : Nat) (e : Dev), k ≤ 4 ∧ i = .int .i64 k ∧ Hid (TryS d P t k e) ∧ Hid (KpS base F w1 wr B K e c)) (fun _ _ i _ _ _ _ _ _ _ _ _ _ _ _ _ _ _ _ _ _ _ _ => 4 - (intOf i).toNat)
  case atStart => exact ⟨0, d, Nat.zero_le _, rfl, HT, HS⟩
  case round =>
    obtain ⟨k, e, hk, rfl, HK, HD⟩ := hrel
    clear HT HS
    by_cases hlt : k < 4
    · have ld := load_put (HD.out.cell HX.out.1 HH.out) (HD.out.cell HX.out.2 HH.out)
      have HTRY := Lib.hid (HD.out.lift (try_any base _ B K c sb so sC _ e P wr HD.out.now (HF.out.fn HD.out.ch.size) (HP.out.now HD.out) HK.out.lim HK.out.limM (by have := HTT.out; omega)))
      have HLT := Lib.hid hlt
      clear HD
      by_cases q : tryE e P = -1
      · have HN := Lib.hid (HK.out.next hlt q)
        rw [show decide (tryE e P = 0) = false by rw [q]; rfl, show tE e P = 0 by unfold tE; rw [if_pos q]] at HTRY
        clear q
        go_wp2_with (first
          | ((with_reducible refine wpList_isOp (.load 164 (.tmp 3)) rfl ?_); refine wpList_loading _ rfl 164 (.tmp 3) rfl _ ⟨H, 0, none⟩ rfl ld ?_)
          | fail)
        refine HTRY.out.mono ?_
        rintro e1 w2 ⟨rfl, hs2⟩
        have HS2 := Lib.hid hs2
        clear hs2 HTRY ld
        go_wp2
        go_roundw
        case rel => exact ⟨k + 1, tryD e P, by omega, by go_num, HN, HS2⟩
        case measure => simp [intOf]; omega
      · have HLA := Lib.hid (HK.out.last hlt q)
        obtain ⟨T, hT⟩ : ∃ T, T = tryE e P := ⟨_, rfl⟩
        rw [← hT] at HLA
        by_cases q0 : T = 0
        · subst q0
          rw [show decide (tryE e P = 0) = true by rw [← hT]; rfl, show tE e P = 0 by unfold tE; rw [if_neg q, ← hT]] at HTRY
          clear q hT
          go_wp2_with (first
            | ((with_reducible refine wpList_isOp (.load 164 (.tmp 3)) rfl ?_); refine wpList_loading _ rfl 164 (.tmp 3) rfl _ ⟨H, 0, none⟩ rfl ld ?_)
            | fail)
          refine HTRY.out.mono ?_
          rintro e1 w2 ⟨rfl, hs2⟩
          have y1 := hs2.c1
          have f1 := hs2.fr 1
          have HD2 := Lib.hid (fun x hx => HFIN.out (w2.setCell ⟨K, 1, none⟩ x) _ _ _ HLA.out.2 HLA.out.1 (if_pos HLA.out.1) (hs2.more HF.out hx))
          clear hs2 HTRY ld
          go_wp2
          go_ret
          exact HD2.out _ (by go_num)
        · have t1 : (T != 0) = true := by simpa using q0
          rw [show decide (tryE e P = 0) = false by rw [← hT]; exact decide_eq_false q0, show tE e P = T by unfold tE; rw [if_neg q, ← hT]] at HTRY
          have HQ0 := Lib.hid q0
          clear q hT q0
          go_wp2_with (first
            | ((with_reducible refine wpList_isOp (.load 164 (.tmp 3)) rfl ?_); refine wpList_loading _ rfl 164 (.tmp 3) rfl _ ⟨H, 0, none⟩ rfl ld ?_)
            | fail)
          refine HTRY.out.mono ?_
          rintro e1 w2 ⟨rfl, hs2⟩
          have HD2 := Lib.hid (HFIN.out w2 _ _ _ HLA.out.2 HLA.out.1 (if_neg (by rw [HLA.out.1]; exact HQ0.out)) hs2)
          clear hs2 HTRY ld
          go_wp2
          go_ret
          exact HD2.out
    · obtain rfl : k = 4 := by omega
      have HD2 := Lib.hid (HFIN.out wr _ _ _ HK.out.D (show kepE 4 d P = 22 from HK.out.E) (if_neg (by rw [HK.out.E]; exact (by decide : ¬ (22 : Int) = 0))) HD.out)
      clear hlt
      go_wp2
      go_ret
      exact HD2.out
end Go.Proofs.YteleknojohnlbaaGreat
namespace Go.Proofs.YteleknojohnlbaaGreat
open Go.RowKit
set_option linter.unusedVariables false
set_option maxRecDepth 100000
theorem PutIs.put {w : World} {X F : Nat → Prop} {K b o sb so sC : Nat} {P : PutP} (h : PutIs w X b o sb so sC P) (hX : ∀ i, X i → ¬ F i ∧ i ≠ K) : PutA w F K sb so sC P := ⟨h.row, (hX sb h.X).1, (hX sb h.X).2, h.lt⟩
set_option maxHeartbeats 3200000 in
theorem each_any (g : FuncId) (hg : g = 128 ∨ False) (base : Nat) (F X : Nat → Prop) (B K n : Nat) (f : Nat → PutP) (A : Option Addr) (C : Nat) (D : Nat → Dev) (E : Nat → Int) (G : Nat → Nat) (w : World)
    (h : KpS base F w w B K (D 0) (G 0)) (h0 : E 0 = 0) (hF : KpF base F w K) (hV : PutsV w X A n f) (hX : ∀ i, X i → ¬ F i ∧ i ≠ K)
    (hstep : ∀ k, k < n → E k = 0 → ∀ (wr : World) (sb so sC : Nat), KpS base F w wr B K (D k) (G k) → PutA w F K sb so sC (f k) →
      Calls Tryz.prog g #[.pointer (some ⟨K, 0, none⟩), .agg #[.int .i64 (f k).pl, .slice (some ⟨sb, so, none⟩) (f k).n sC]] wr fun e w' => e = .returned (.int .i64 (E (k + 1))) ∧ KpS base F w w' B K (D (k + 1)) (G (k + 1)))
    (hstop : ∀ k, k ≤ n → E k ≠ 0 → E n = E k ∧ D n = D k ∧ G n = G k) :
    Calls Tryz.prog 127 #[.slice A n C, .func (.func g) #[.pointer (some ⟨K, 0, none⟩)] #[]] w fun e w' => e = .returned (.int .i64 (E n)) ∧ KpS base F w w' B K (D n) (G n) := by
  have hn := hV.1
  have HF := Lib.hid hF
  have HV := Lib.hid hV
  have HX := Lib.hid hX
  have HG := Lib.hid hg
  have HST := Lib.hid hstep
  have HE0 := Lib.hid h0
  have HS := Lib.hid h
  have HFIN := Lib.hid (show ∀ (wr : World) (k : Nat) (e : Int), k ≤ n → (E k ≠ 0 ∨ k = n) → KpS base F w wr B K (D k) (G k) → E k = e → Ending.returned (.int .i64 e) = .returned (.int .i64 (E n)) ∧ KpS base F w wr B K (D n) (G n) from fun wr k e hk hs q h2 => by
    rcases hs with hs | rfl
    · obtain ⟨e1, e2, e3⟩ := hstop k hk hs
      rw [e1, e2, e3, h2]
      exact ⟨rfl, q⟩
    · rw [h2]
      exact ⟨rfl, q⟩)
  clear h h0 hF hV hX hg hstep hstop
  go_enter Tryz.func127, Tryz.ntmps127
  go_wp2
  go_loopw [6, 7, 10, 11, 12, 13, 14, 15, 16, 17, 18, 19, 20] (fun _ _ i _ _ _ _ _ _ _ _ _ _ wr => ∃ k : Nat, k ≤ n ∧ i = .int .i64 k ∧ Hid (E k = 0) ∧ Hid (KpS base F w wr B K (D k) (G k))) (fun _ _ i _ _ _ _ _ _ _ _ _ _ _ => n - (intOf i).toNat)
  case atStart => exact ⟨0, Nat.zero_le _, rfl, HE0, HS⟩
  case round =>
    obtain ⟨k, hk, rfl, HE, HD⟩ := hrel
    clear HS
    by_cases hlt : k < n
    · obtain ⟨b, o, rfl, hb, hc⟩ := HV.out.2 (by omega)
      obtain ⟨sb, so, sC, hp⟩ := hc k hlt
      have i1 : (0 : Int) ≤ (k : Int) := Int.natCast_nonneg _
      have i2 : (k : Int) < (n : Int) := by omega
      obtain ⟨d0, d1⟩ := HD.out.put hp HX.out hb
      have ld := load_put d0 d1
      obtain ⟨wz, wx, H, hR⟩ := varR (t := 164) (u := .int .i64 0) (v := .slice none 0 0) (x := .int .i64 (f k).pl) (y := .slice (some ⟨sb, so, none⟩) (f k).n sC) size_put rfl rfl wr
      have l2 := load_put (w := wx) (b := H) (o := 0) (blk_cell hR.cx) (blk_cell hR.cx)
      have HO := Lib.hid (HST.out k hlt HE.out wx sb so sC (HD.out.gr hR.ch) (hp.put HX.out))
      have HR := Lib.hid hR
      have HLT := Lib.hid hlt
      obtain ⟨Y, hY⟩ : ∃ Y, Y = E (k + 1) := ⟨_, rfl⟩
      rw [← hY] at HO
      have HY := Lib.hid hY
      clear hc hp hb hlt hR d0 d1 hY HD
      rcases HG.out with hz | hz <;> first | exact hz.elim | subst hz
      all_goals (
        go_wp2_with (first
          | ((with_reducible refine wpList_isOp (.load 164 (.tmp 12)) rfl ?_); refine wpList_loading _ rfl 164 (.tmp 12) rfl _ ⟨b, o + k * 2, none⟩ rfl ld ?_)
          | ((with_reducible refine wpList_isOp (.alloc 164) rfl ?_); refine wpList_making _ wz rfl 164 rfl #[.int .i64 0, .slice none 0 0] H (zero_put _) (by exact HR.out.sz) (by exact HR.out.al) ?_)
          | ((with_reducible refine wpList_isOp (.store 164 (.tmp 6) (.tmp 13)) rfl ?_); refine wpList_storing _ wx rfl 164 (.tmp 6) (.tmp 13) rfl (.agg #[.int .i64 (f k).pl, .slice (some ⟨sb, so, none⟩) (f k).n sC]) ⟨H, 0, none⟩ rfl rfl (by exact HR.out.st) ?_)
          | ((with_reducible refine wpList_isOp (.load 164 (.tmp 6)) rfl ?_); refine wpList_loading _ rfl 164 (.tmp 6) rfl _ ⟨H, 0, none⟩ rfl l2 ?_)
          | fail)
        refine HO.out.mono ?_
        rintro e1 w2 ⟨rfl, hs2⟩
        have HS2 := Lib.hid hs2
        clear hs2 HO ld l2
        by_cases hE : Y = 0
        · subst hE
          have HLT2 := HLT.out
          go_wp2
          go_roundw
          case rel => exact ⟨k + 1, by omega, by go_num, Lib.hid HY.out.symm, HS2⟩
          case measure => simp [intOf]; omega
        · have HP := Lib.hid (HFIN.out w2 (k + 1) Y HLT.out (Or.inl (by rw [← HY.out]; exact hE)) HS2.out HY.out.symm)
          have t1 : (Y != 0) = true := by simpa using hE
          clear hE
          go_wp2
          go_ret
          exact HP.out)
    · obtain rfl : k = n := by omega
      have HP := Lib.hid (HFIN.out wr k 0 (Nat.le_refl _) (Or.inr rfl) HD.out HE.out)
      clear hlt
      go_wp2
      go_ret
      exact HP.out
section
variable {base : Nat} {w w1 wz wx : World} {p : Ph} {d : Dev} {K : Nat}
theorem VarR.kp (v : VarR w1 wz wx K #[.pointer none, .int .i64 0] #[.pointer (some ⟨p.B, 0, none⟩), .int .i64 0] 178) (k : Ch (fun _ => False) w w1) (h : DevIs base w p d) : KpS base (Foot p d) wx wx p.B K d 0 ∧ KpF base (Foot p d) wx K ∧ Ch (fun _ => False) w wx ∧ w.heap.size ≤ K := by
  have k2 := k.trans v.ch
  have hk : w.heap.size ≤ K := by have := v.sz; have := k.size; omega
  exact ⟨⟨⟨p, rfl, h.gr k2, fun i hi => Or.inl hi⟩, v.cx, Ch.refl _ wx⟩, ⟨by have := (h.foot (i := p.B) (Or.inl rfl)); have := k2.size; omega, fun i hi => ⟨(h.foot hi).1, Nat.lt_of_lt_of_le (h.foot hi).2 k2.size⟩, fun hi => by have := (h.foot hi).2; omega, blk_lt v.cx⟩, k2, hk⟩
end
def cntA (f : Nat → PutP) (d : Dev) : Nat → Nat
  | 0 => 0
  | k + 1 => if (allTo f d k).e = 0 then kepC (allTo f d k).d (f k) (cntA f d k) else cntA f d k
theorem kepC_le (d : Dev) (P : PutP) (c : Nat) : kepC d P c ≤ c + 1 := by unfold kepC; split <;> omega
theorem cntA_le (f : Nat → PutP) (d : Dev) : ∀ k, cntA f d k ≤ k
  | 0 => Nat.le_refl _
  | k + 1 => by
    have ih := cntA_le f d k
    show (if (allTo f d k).e = 0 then kepC (allTo f d k).d (f k) (cntA f d k) else cntA f d k) ≤ k + 1
    split
    · exact Nat.le_trans (kepC_le _ _ _) (by omega)
    · omega
theorem cntA_stop {f : Nat → PutP} {d : Dev} {i : Nat} (h : (allTo f d i).e ≠ 0) : ∀ n, i ≤ n → cntA f d n = cntA f d i
  | 0, hn => by obtain rfl : i = 0 := by omega
                rfl
  | n + 1, hn => by
    by_cases q : i = n + 1
    · rw [q]
    · have ih := cntA_stop h n (by omega)
      show (if (allTo f d n).e = 0 then kepC (allTo f d n).d (f n) (cntA f d n) else cntA f d n) = _
      rw [allTo_stop h n (by omega), if_neg h, ih]
set_option maxHeartbeats 1600000 in
theorem kall_any (base : Nat) (X : Nat → Prop) (p : Ph) (d : Dev) (n : Nat) (f : Nat → PutP) (A : Option Addr) (C t : Nat) (w : World) (h : DevIs base w p d) (hV : PutsV w X A n f) (hX : ∀ i, X i → ¬ Foot p d i) (hXl : ∀ i, X i → i < w.heap.size) (hl : Lim d t) (hm : LimM d t) (ht : t + 13 * n ≤ 990000) :
    Calls Tryz.prog 110 #[.pointer (some ⟨p.B, 0, none⟩), .slice A n C] w (DPost base p d (allTo f d n).d (.int .i64 (allTo f d n).e) w) := by
  obtain ⟨wz, wx, K, hK⟩ := varR (t := 178) (u := .pointer none) (v := .int .i64 0) (x := .pointer (some ⟨p.B, 0, none⟩)) (y := .int .i64 0) size_kp rfl rfl w
  obtain ⟨q1, q2, q3, q4⟩ := hK.kp (Ch.refl _ w) h
  have HO := Lib.hid (each_any _ (Or.inl rfl) base (Foot p d) X p.B K n f A C (fun k => (allTo f d k).d) (fun k => (allTo f d k).e) (cntA f d) wx q1 rfl q2 (hV.gr q3) (fun i hi => ⟨hX i hi, by have := hXl i hi; omega⟩)
    (fun k hk he wr sb so sC q hp => by
      have e1 : allTo f d (k + 1) = ⟨kepD 4 (allTo f d k).d (f k), kepE 4 (allTo f d k).d (f k)⟩ := if_pos he
      have e2 : cntA f d (k + 1) = kepC (allTo f d k).d (f k) (cntA f d k) := if_pos he
      have hlk := allTo_lim (f := f) hl hm k
      have hck := cntA_le f d k
      rw [e1, e2]
      exact q.lift (kwrite_any base _ p.B K _ sb so sC _ _ (f k) wr q.now (q2.fn q.ch.size) (hp.now q) hlk.1 hlk.2 (by omega) (by omega)))
    (fun k hk he => by
      rw [allTo_stop he n hk, cntA_stop he n hk]
      exact ⟨rfl, rfl, rfl⟩))
  have HFIN := Lib.hid (show ∀ wr, KpS base (Foot p d) wx wr p.B K (allTo f d n).d (cntA f d n) → DPost base p d (allTo f d n).d (.int .i64 (allTo f d n).e) w (.returned (.int .i64 (allTo f d n).e)) wr from fun wr q => q.post q3 q4)
  have HK := Lib.hid hK
  clear h hV hX hXl hl hm ht hK q1 q2 q3 q4
  go_enter Tryz.func110, Tryz.ntmps110
  go_wp2_with (first
    | ((with_reducible refine wpList_isOp (.alloc 178) rfl ?_); refine wpList_making _ wz rfl 178 rfl #[.pointer none, .int .i64 0] K (zero_kp _) (by exact HK.out.sz) (by exact HK.out.al) ?_)
    | ((with_reducible refine wpList_isOp (.store 178 (.tmp 5) (.tmp 7)) rfl ?_); refine wpList_storing _ wx rfl 178 (.tmp 5) (.tmp 7) rfl (.agg #[.pointer (some ⟨p.B, 0, none⟩), .int .i64 0]) ⟨K, 0, none⟩ rfl rfl (by exact HK.out.st) ?_)
    | fail)
  refine HO.out.mono ?_
  rintro e w2 ⟨rfl, hs⟩
  have HP := Lib.hid (HFIN.out w2 hs)
  clear hs HO
  go_wp2
  go_ret
  exact HP.out
end Go.Proofs.YteleknojohnlbaaGreat
