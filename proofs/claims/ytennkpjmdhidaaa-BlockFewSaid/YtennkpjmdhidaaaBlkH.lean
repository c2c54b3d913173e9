/-
  block.Open, walked.
-/
import Derived.Test.YtennkpjmdhidaaaBlkG
namespace Go.Proofs.Ytennkpjmdhidaaa
open Go.RowKit
set_option linter.unusedVariables false

def openB (n : Nat) (z : Nat → Nat) (V : Value) : Bk := if opensB n z then readB V z else bk0
def OpenPost (n : Nat) (z : Nat → Nat) (w : World) (e : Ending) (w' : World) : Prop :=
  ∃ V, e = .returned (.tuple #[.agg (bkC (openB n z V)), .int .i64 (openE n z)]) ∧ BkIs w' (openB n z V) ∧ Ch (fun _ => False) w w'
theorem bk0_is (w : World) : BkIs w bk0 := by
  have h : N64 0 := by unfold N64; omega
  exact ⟨h, h, h, h, h, nil_row _ _⟩
theorem numZ_64 {z : Nat → Nat} {a n : Nat} (hz : Bytes n z) (ha : a + 4 ≤ n) : N64 (numZ z a) := by
  have := Crc.le4_lt (hz a (by omega)) (hz (a + 1) (by omega)) (hz (a + 2) (by omega)) (hz (a + 3) (by omega))
  unfold N64 numZ
  omega
theorem readB_is {w : World} {A : Option Addr} {C : Nat} {z : Nat → Nat} (hz : Bytes 256 z) (h : RowV w (.slice A (readL z) C) (readL z) (bodyZ z)) : BkIs w (readB (.slice A (readL z) C) z) := by
  refine ⟨?_, numZ_64 hz (by omega), numZ_64 hz (by omega), numZ_64 hz (by omega), numZ_64 hz (by omega), h⟩
  have := hz 2 (by omega)
  show N64 (z 2 : Int)
  unfold N64
  omega
theorem openE_long {n : Nat} (z : Nat → Nat) (h : n ≠ 256) : openE n z = 1 := by unfold openE; rw [if_neg h]
theorem opensB_long {n : Nat} (z : Nat → Nat) (h : n ≠ 256) : opensB n z = false := by unfold opensB; rw [decide_eq_false h, Bool.false_and]
theorem openE_at (z : Nat → Nat) : openE 256 z = if opensB 256 z then 0 else 7 := by unfold openE; rw [if_pos rfl]
theorem opensB_at (z : Nat → Nat) : opensB 256 z = (mayB (readB undef z) && eqB 256 256 (sectZ (readB undef z)) z) := by unfold opensB; rw [decide_eq_true rfl, Bool.true_and]
theorem openB_no {n : Nat} {z : Nat → Nat} (h : opensB n z = false) (V : Value) : openB n z V = bk0 := by unfold openB; rw [h]; rfl
theorem openB_yes {n : Nat} {z : Nat → Nat} (h : opensB n z = true) (V : Value) : openB n z V = readB V z := by unfold openB; rw [if_pos h]
theorem openPost_no {n : Nat} {z : Nat → Nat} {w w' : World} {x : Int} (h : opensB n z = false) (hx : openE n z = x) (hc : Ch (fun _ => False) w w') : OpenPost n z w (.returned (.tuple #[.agg (bkC bk0), .int .i64 x])) w' :=
  ⟨undef, by rw [openB_no h, hx], by rw [openB_no h]; exact bk0_is _, hc⟩
theorem openPost_yes {n : Nat} {z : Nat → Nat} {w w' : World} {V : Value} (h : opensB n z = true) (hx : openE n z = 0) (hb : BkIs w' (readB V z)) (hc : Ch (fun _ => False) w w') : OpenPost n z w (.returned (.tuple #[.agg (bkC (readB V z)), .int .i64 0])) w' :=
  ⟨V, by rw [openB_yes h, hx], by rw [openB_yes h]; exact hb, hc⟩
theorem bk0_V : ∃ A n C, bk0.V = .slice A n C := ⟨_, _, _, rfl⟩
set_option maxHeartbeats 1600000 in
set_option maxRecDepth 100000 in
theorem open_long (A : Option Addr) (n C : Nat) (z : Nat → Nat) (w : World) (hn : n ≤ 140737488351232) (h : n ≠ 256) : Calls Try.prog 14 #[.slice A n C] w (OpenPost n z w) := by
  obtain ⟨w1, H, hZ⟩ := zeR w
  obtain ⟨w2, h2⟩ := stR (b := bk0) hZ.cx bk0_V
  have HP := Lib.hid (openPost_no (w := w) (w' := w2) (opensB_long z h) (openE_long z h) (hZ.ch.over h2.ch (by rw [hZ.sz]; exact Nat.le_refl _)))
  have HZ := Lib.hid hZ
  have H2 := Lib.hid h2
  have t1 : ((n : Int) != 256) = true := by simp; omega
  clear hZ h2 h
  go_enter Try.func14, Try.ntmps14
  go_wp2_with (first
    | ((with_reducible refine wpList_isOp (.alloc 24) rfl ?_); refine wpList_making _ w1 rfl 24 rfl (bkC bk0) H (zero_bk _) (by exact HZ.out.sz) (by exact HZ.out.al) ?_)
    | ((with_reducible refine wpList_isOp (.store 24 (.tmp 2) (.tmp 10)) rfl ?_); refine wpList_storing _ w2 rfl 24 (.tmp 2) (.tmp 10) rfl (.agg (bkC bk0)) ⟨H, 0, none⟩ rfl rfl (by exact H2.out.st) ?_))
  exact bodyPost_ret (v := .tuple #[.agg (bkC bk0), .int .i64 1]) (results_bk Try.results14 _ _ H bk0 rfl H2.out.cx) rfl HP.out
#print axioms open_long
set_option maxHeartbeats 3200000 in
set_option maxRecDepth 100000 in
theorem open_at (A : Option Addr) (C : Nat) (z : Nat → Nat) (w : World) (h : RowV w (.slice A 256 C) 256 z) : Calls Try.prog 14 #[.slice A 256 C] w (OpenPost 256 z w) := by
  obtain ⟨w1, H, hZ⟩ := zeR w
  have HZ := Lib.hid hZ
  have HV1 := Lib.hid (h.gr hZ.ch)
  have HBY := Lib.hid h.bytes
  have t1 : ((256 : Int) != 256) = false := by simp
  clear hZ h
  go_enter Try.func14, Try.ntmps14
  go_wp2_with ((with_reducible refine wpList_isOp (.alloc 24) rfl ?_); refine wpList_making _ w1 rfl 24 rfl (bkC bk0) H (zero_bk _) (by exact HZ.out.sz) (by exact HZ.out.al) ?_)
  refine (read_any A C z _ HV1.out).mono ?_
  rintro e w2 ⟨A2, C2, rfl, ho2, hc2⟩
  obtain ⟨r, hr⟩ : ∃ r, r = readB (.slice A2 (readL z) C2) z := ⟨_, rfl⟩
  have hrV : r.V = .slice A2 r.len C2 := by rw [hr]; rfl
  have hrow2 := ownsRow_rowV ho2 (by have := readL_le z; omega) (fun c hc => HBY.out _ (by have := readL_le z; omega))
  have hr2 : BkIs w2 r := by rw [hr]; exact readB_is HBY.out hrow2
  obtain ⟨w3, H3, hZ3⟩ := zeR w2
  obtain ⟨w4, h4⟩ := stR (b := r) hZ3.cx ⟨_, _, _, hrV⟩
  have hc4 : Ch (fun _ => False) w2 w4 := hZ3.ch.over h4.ch (by rw [hZ3.sz]; exact Nat.le_refl _)
  have HR4 := Lib.hid (hr2.gr hc4)
  have HL4 := Lib.hid (load_bk h4.cx)
  have HZ3 := Lib.hid hZ3
  have H4 := Lib.hid h4
  have HC14 := Lib.hid (hc2.trans hc4)
  have HV4 := Lib.hid (HV1.out.gr (hc2.trans hc4))
  have HRV := Lib.hid hrV
  have HSE := Lib.hid (show mayB (readB undef z) = mayB r by rw [hr]; rfl)
  have HSZ := Lib.hid (show sectZ (readB undef z) = sectZ r by rw [hr]; rfl)
  have HRD := Lib.hid hr
  have HO4 := Lib.hid (show w4.ownsRow w1.heap.size /-t-/5 1 (.slice A2 r.len C2) r.len (bytesL r.len r.z) by
    rw [hr]
    exact ownsRow_ch ho2 hc4)
  rw [← hr]
  clear ho2 hc2 hrow2 hr2 hZ3 h4 hc4 hrV hr
  go_wp2_with (first
    | ((with_reducible refine wpList_isOp (.alloc 24) rfl ?_); refine wpList_making _ w3 rfl 24 rfl (bkC bk0) H3 (zero_bk _) (by exact HZ3.out.sz) (by exact HZ3.out.al) ?_)
    | ((with_reducible refine wpList_isOp (.store 24 (.tmp 4) (.tmp 12)) rfl ?_); refine wpList_storing _ w4 rfl 24 (.tmp 4) (.tmp 12) rfl (.agg (bkC r)) ⟨H3, 0, none⟩ rfl rfl (by exact H4.out.st) ?_)
    | ((with_reducible refine wpList_isOp (.load 24 (.tmp 4)) rfl ?_); refine wpList_loading _ rfl 24 (.tmp 4) rfl (.agg (bkC r)) ⟨H3, 0, none⟩ rfl (by exact HL4.out) ?_))
  refine (bseal_any r A2 C2 _ HRV.out HR4.out).mono ?_
  rintro e w5 ⟨A5, C5, rfl, ho5, hc5⟩
  have HC15 := Lib.hid (HC14.out.trans hc5)
  have hcx1 : w5.heap[H]? = some (.cells (bkC bk0) 24 (0, 0)) := (HC15.out.block H (blk_lt (o := .cells (bkC bk0) 24 (0, 0)) HZ.out.cx) (fun f => f)).trans HZ.out.cx
  have hcx4 : w5.heap[H3]? = some (.cells (bkC r) 24 (0, 0)) := (hc5.block H3 (blk_lt (o := .cells (bkC r) 24 (0, 0)) H4.out.cx) (fun f => f)).trans H4.out.cx
  have HL5 := Lib.hid (load_bk hcx4)
  have HV5 := Lib.hid (HV4.out.gr hc5)
  have HRb := Lib.hid (HR4.out.gr hc5)
  obtain ⟨wn, hn⟩ := stR (b := bk0) hcx1 bk0_V
  obtain ⟨wy, hy⟩ := stR (b := r) hcx1 ⟨_, _, _, HRV.out⟩
  have hH : w.heap.size ≤ H := by rw [HZ.out.sz]; exact Nat.le_refl _
  have HN := Lib.hid hn
  have HY := Lib.hid hy
  have HPN := Lib.hid (show opensB 256 z = false → OpenPost 256 z w (.returned (.tuple #[.agg (bkC bk0), .int .i64 7])) wn from fun q =>
    openPost_no q (by rw [openE_at, q]; rfl) ((HZ.out.ch.trans HC15.out).over hn.ch hH))
  have HPY := Lib.hid (show opensB 256 z = true → OpenPost 256 z w (.returned (.tuple #[.agg (bkC r), .int .i64 0])) wy from fun q => by
    have hb : BkIs wy r := by
      have hb5 := HRb.out
      have ho5y := ownsRow_ch HO4.out hc5
      have hoy : wy.ownsRow w1.heap.size /-t-/5 1 (.slice A2 r.len C2) r.len (bytesL r.len r.z) := own_of ho5y (fun i hi => hy.ch.block i (World.ownsRow.lt ho5y i hi).2 (fun e => by
        have h5 := (World.ownsRow.lt ho5y i hi).1
        have h6 := blk_lt (o := .cells (bkC bk0) 24 (0, 0)) HZ.out.cx
        omega))
      refine ⟨hb5.kind, hb5.vol, hb5.addr, hb5.epoch, hb5.seq, ?_⟩
      rw [HRV.out]
      exact ownsRow_rowV hoy (by
        obtain ⟨_, _, _, hh, _⟩ := hb5.row
        exact hh.1) hb5.row.bytes
    rw [HRD.out] at hb ⊢
    exact openPost_yes q (by rw [openE_at, q]; rfl) hb ((HZ.out.ch.trans HC15.out).over hy.ch hH))
  have HAT := Lib.hid (show opensB 256 z = (mayB r && eqB 256 256 (sectZ r) z) by rw [opensB_at, HSE.out, HSZ.out])
  have HSB := Lib.hid (show Bytes 256 (sectZ r) from sectZ_b HRb.out.row.bytes 256)
  by_cases hm : mayB r = true
  · have hN : sealN r = 256 := by unfold sealN; rw [hm]; rfl
    have hE : sealE r = 0 := of_decide_eq_true (by rw [← sealE_may]; exact hm)
    rw [hN] at ho5
    have HS5 := Lib.hid (ownsRow_rowV ho5 (by omega) HSB.out)
    have HQ := Lib.hid (show opensB 256 z = eqB 256 256 (sectZ r) z by rw [HAT.out, hm, Bool.true_and])
    rw [hN, hE]
    obtain ⟨q, hq⟩ : ∃ q, q = eqB 256 256 (sectZ r) z := ⟨_, rfl⟩
    have HEQ := Lib.hid hq
    rw [← hq] at HQ
    clear ho5 hc5 hn hy hcx1 hcx4 hN hE hm hq
    go_wp2_with fail
    refine (equal_any _ _ 256 256 _ _ _ _ _ HS5.out HV5.out).mono ?_
    rintro e w6 ⟨rfl, rfl⟩
    rw [← HEQ.out]
    cases q
    · go_wp2_with ((with_reducible refine wpList_isOp (.store 24 (.tmp 2) (.tmp 26)) rfl ?_); refine wpList_storing _ wn rfl 24 (.tmp 2) (.tmp 26) rfl (.agg (bkC bk0)) ⟨H, 0, none⟩ rfl rfl (by exact HN.out.st) ?_)
      exact bodyPost_ret (v := .tuple #[.agg (bkC bk0), .int .i64 7]) (results_bk Try.results14 _ _ H bk0 rfl HN.out.cx) rfl (HPN.out HQ.out)
    · go_wp2_with (first
        | ((with_reducible refine wpList_isOp (.load 24 (.tmp 4)) rfl ?_); refine wpList_loading _ rfl 24 (.tmp 4) rfl (.agg (bkC r)) ⟨H3, 0, none⟩ rfl (by exact HL5.out) ?_)
        | ((with_reducible refine wpList_isOp (.store 24 (.tmp 2) (.tmp 27)) rfl ?_); refine wpList_storing _ wy rfl 24 (.tmp 2) (.tmp 27) rfl (.agg (bkC r)) ⟨H, 0, none⟩ rfl rfl (by exact HY.out.st) ?_))
      exact bodyPost_ret (v := .tuple #[.agg (bkC r), .int .i64 0]) (results_bk Try.results14 _ _ H r rfl HY.out.cx) rfl (HPY.out HQ.out)
  · have hm : mayB r = false := by simpa using hm
    have HQ := Lib.hid (show opensB 256 z = false by rw [HAT.out, hm, Bool.false_and])
    have hE : sealE r ≠ 0 := fun e => by
      have := sealE_may (b := r)
      rw [hm, e] at this
      cases this
    obtain ⟨E, hEE⟩ : ∃ E, E = sealE r := ⟨_, rfl⟩
    rw [← hEE] at hE ⊢
    have t2 : (E != 0) = true := by simpa using hE
    clear ho5 hc5 hn hy hcx1 hcx4 hm hE hEE
    go_wp2_with ((with_reducible refine wpList_isOp (.store 24 (.tmp 2) (.tmp 26)) rfl ?_); refine wpList_storing _ wn rfl 24 (.tmp 2) (.tmp 26) rfl (.agg (bkC bk0)) ⟨H, 0, none⟩ rfl rfl (by exact HN.out.st) ?_)
    exact bodyPost_ret (v := .tuple #[.agg (bkC bk0), .int .i64 7]) (results_bk Try.results14 _ _ H bk0 rfl HN.out.cx) rfl (HPN.out HQ.out)
#print axioms open_at
theorem open_any (A : Option Addr) (n C : Nat) (z : Nat → Nat) (w : World) (h : RowV w (.slice A n C) n z) : Calls Try.prog 14 #[.slice A n C] w (OpenPost n z w) := by
  by_cases e : n = 256
  · subst e; exact open_at A C z w h
  · obtain ⟨_, _, _, h2, _⟩ := id h
    exact open_long A n C z w h2.1 e
#print axioms open_any
end Go.Proofs.Ytennkpjmdhidaaa
