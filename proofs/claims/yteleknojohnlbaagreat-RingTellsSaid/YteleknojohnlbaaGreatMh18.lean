/-
  Ints, and a fault, that are handed in, opened. block.Open, walked. block.Class, walked. Four bytes in a row, changed one after the other. What was sealed is opened as it was; what was changed by up to four bytes in a row, or is all noughts, is no block: in plain words. Regions that draw their order, within a round of a range over a function: what the plain calculus shows of every order serves there, too.
-/
import Derived.Test.YteleknojohnlbaaGreatMh17
import Derived.Test.YteleknojohnlbaaGreatMh6
import Derived.Test.YteleknojohnlbaaGreatMh15
import Derived.Test.YteleknojohnlbaaGreatMh1
import Derived.RangeFuncNested
import Derived.RangeFuncBox
import Derived.RangeFuncLeaves
import Derived.RangeFuncCalls
import Derived.OwnWalkIn
import Derived.TacticsInMore
import Derived.LoopNIn
import Derived.LoopIn
import Derived.StillTail
import Derived.StillTactics
import Derived.OrdersHeld
namespace Go.Proofs.YteleknojohnlbaaGreat
open Go.ChangeShapes Go.WideShapes Go.ChangeAt Go.RowKit Go.Deep
set_option linter.unusedVariables false
set_option maxRecDepth 100000

theorem open_int64s {H : Type} {enc : TypeId × Value → H} {W : World} {v : Value} {d : DataW H} {p : List MemPlace} (hv : ∃ a len cap, v = .slice a len cap) (h : DataW.Trod enc Tryz.prog W 0 (fun _ => true) true 45 v d p)
    (s1 : ∀ elems spare, d = .slice elems spare → (elems.length + spare.length) * 8 ≤ reachBytes) : ∃ (A : Option Addr) (C n : Nat) (q : Nat → Int), v = .slice A n C ∧ IntV W (.slice A n C) n q ∧ ∀ i, i < n → I64 (q i) := by
  obtain ⟨a0, len, cap, rfl⟩ := hv
  obtain ⟨fuel, hf⟩ := h
  rcases open_ints underI underN cellsN hf with ⟨hcs0, hx⟩ | ⟨a, len', cap', zs, hcs0, _, hl, hm, hzl, hx, hcell, hwf⟩
  · simp [Value.cells] at hcs0
    obtain ⟨rfl, rfl, rfl⟩ := hcs0
    exact ⟨none, 0, 0, fun _ => 0, rfl, none_intV W _ 0, fun i hi => absurd hi (Nat.not_lt_zero i)⟩
  · simp [Value.cells] at hcs0
    obtain ⟨rfl, rfl, rfl⟩ := hcs0
    simp only [Prod.mk.injEq] at hx
    obtain ⟨rfl, rfl⟩ := hx
    simp only [if_true] at hzl
    have hlen := s1 _ _ rfl
    simp only [lits, List.length_map, List.length_take, List.length_drop, hzl, reach_eq] at hlen
    refine ⟨some a, cap, len, fun c => zs.getD c 0, rfl, ⟨some a, cap, rfl, by omega, fun h0 => ?_⟩, fun i hi => ?_⟩
    · obtain ⟨b, o, rfl⟩ := addr_none (hcell 0 (by omega))
      exact ⟨b, o, rfl, fun c hc => by have hcc := hcell c (by omega); rwa [add_pl] at hcc⟩
    · have hi2 : i < zs.length := by omega
      have : zs.getD i 0 ∈ zs := by
        rw [List.getD_eq_getElem?_getD, List.getElem?_eq_getElem hi2]
        exact List.getElem_mem hi2
      exact b64 (hwf _ this)
/-- A fault that is handed in. -/
theorem open_fault {H : Type} {enc : TypeId × Value → H} {W : World} {v : Value} {d : DataW H} {p : List MemPlace} {b0 : Nat} {r : Reach} (hv : Value.okWide Tryz.prog W r b0 48 v) (h : DataW.Trod enc Tryz.prog W 0 (fun _ => true) true 48 v d p) : ∃ f, FaOk f ∧ v = .agg (faC f) := by
  obtain ⟨cs, rfl, _⟩ := Go.WideShapes.okWide_struct Tryz.underlying48 hv
  obtain ⟨fuel, hf⟩ := h
  obtain ⟨f, h1, h2⟩ := fault_of (cs := cs.toList) hf
  exact ⟨f, h1, congrArg Value.agg (Array.ext' h2)⟩
end Go.Proofs.YteleknojohnlbaaGreat
namespace Go.Proofs.YteleknojohnlbaaGreat
open Go.RowKit
set_option linter.unusedVariables false
set_option maxRecDepth 100000

def openB (n : Nat) (z : Nat → Nat) (V : Value) : Bk := if opensB n z then readB V z else bk0
def OpenPost (n : Nat) (z : Nat → Nat) (w : World) (e : Ending) (w' : World) : Prop :=
  ∃ V, e = .returned (.tuple #[.agg (bkC (openB n z V)), .int .i64 (openQ n z)]) ∧ BkIs w' (openB n z V) ∧ Ch (fun _ => False) w w'
theorem bk0_is (w : World) : BkIs w bk0 := by
  have h : N64 0 := by unfold N64; omega
  exact ⟨h, h, h, h, h, nil_row _ _⟩
theorem numZ_64 {z : Nat → Nat} {a n : Nat} (hz : Bytes n z) (ha : a + 4 ≤ n) : N64 (numZ z a) := by
  have := Crc.le4_lt (hz a (by omega)) (hz (a + 1) (by omega)) (hz (a + 2) (by omega)) (hz (a + 3) (by omega))
  unfold N64 numZ
  omega
theorem readB_is {w : World} {A : Option Addr} {C : Nat} {z : Nat → Nat} (hz : Bytes 256 z) (h : RowV w (.slice A (rdLen z) C) (rdLen z) (bodyZ z)) : BkIs w (readB (.slice A (rdLen z) C) z) := by
  refine ⟨?_, numZ_64 hz (by omega), numZ_64 hz (by omega), numZ_64 hz (by omega), numZ_64 hz (by omega), h⟩
  have := hz 2 (by omega)
  show N64 (z 2 : Int)
  unfold N64
  omega
theorem openE_long {n : Nat} (z : Nat → Nat) (h : n ≠ 256) : openQ n z = 1 := by unfold openQ; rw [if_neg h]
theorem opensB_long {n : Nat} (z : Nat → Nat) (h : n ≠ 256) : opensB n z = false := by unfold opensB; rw [decide_eq_false h, Bool.false_and]
theorem openE_at (z : Nat → Nat) : openQ 256 z = if opensB 256 z then 0 else 7 := by unfold openQ; rw [if_pos rfl]
theorem opensB_at (z : Nat → Nat) : opensB 256 z = (mayB (readB undef z) && eqB 256 256 (sectZ (readB undef z)) z) := by unfold opensB; rw [decide_eq_true rfl, Bool.true_and]
theorem openB_no {n : Nat} {z : Nat → Nat} (h : opensB n z = false) (V : Value) : openB n z V = bk0 := by unfold openB; rw [h]; rfl
theorem openB_yes {n : Nat} {z : Nat → Nat} (h : opensB n z = true) (V : Value) : openB n z V = readB V z := by unfold openB; rw [if_pos h]
theorem openPost_no {n : Nat} {z : Nat → Nat} {w w' : World} {x : Int} (h : opensB n z = false) (hx : openQ n z = x) (hc : Ch (fun _ => False) w w') : OpenPost n z w (.returned (.tuple #[.agg (bkC bk0), .int .i64 x])) w' :=
  ⟨undef, by rw [openB_no h, hx], by rw [openB_no h]; exact bk0_is _, hc⟩
theorem openPost_yes {n : Nat} {z : Nat → Nat} {w w' : World} {V : Value} (h : opensB n z = true) (hx : openQ n z = 0) (hb : BkIs w' (readB V z)) (hc : Ch (fun _ => False) w w') : OpenPost n z w (.returned (.tuple #[.agg (bkC (readB V z)), .int .i64 0])) w' :=
  ⟨V, by rw [openB_yes h, hx], by rw [openB_yes h]; exact hb, hc⟩
theorem bk0_V : ∃ A n C, bk0.V = .slice A n C := ⟨_, _, _, rfl⟩
set_option maxHeartbeats 1600000 in
set_option maxRecDepth 100000 in
theorem open_long (A : Option Addr) (n C : Nat) (z : Nat → Nat) (w : World) (hn : n ≤ 140737488351232) (h : n ≠ 256) : Calls Tryz.prog 82 #[.slice A n C] w (OpenPost n z w) := by
  obtain ⟨w1, H, hZ⟩ := zeR w
  obtain ⟨w2, h2⟩ := stR (b := bk0) hZ.cx bk0_V
  have HP := Lib.hid (openPost_no (w := w) (w' := w2) (opensB_long z h) (openE_long z h) (hZ.ch.over h2.ch (by rw [hZ.sz]; exact Nat.le_refl _)))
  have HZ := Lib.hid hZ
  have H2 := Lib.hid h2
  have t1 : ((n : Int) != 256) = true := by simp; omega
  clear hZ h2 h
  go_enter Tryz.func82, Tryz.ntmps82
  go_wp2_with (first
    | ((with_reducible refine wpList_isOp (.alloc 80) rfl ?_); refine wpList_making _ w1 rfl 80 rfl (bkC bk0) H (zero_bk _) (by exact HZ.out.sz) (by exact HZ.out.al) ?_)
    | ((with_reducible refine wpList_isOp (.store 80 (.tmp 2) (.tmp 10)) rfl ?_); refine wpList_storing _ w2 rfl 80 (.tmp 2) (.tmp 10) rfl (.agg (bkC bk0)) ⟨H, 0, none⟩ rfl rfl (by exact H2.out.st) ?_))
  exact bodyPost_ret (v := .tuple #[.agg (bkC bk0), .int .i64 1]) (results_bk Tryz.results82 _ _ H bk0 rfl H2.out.cx) rfl HP.out
set_option maxHeartbeats 3200000 in
set_option maxRecDepth 100000 in
theorem open_at (A : Option Addr) (C : Nat) (z : Nat → Nat) (w : World) (h : RowV w (.slice A 256 C) 256 z) : Calls Tryz.prog 82 #[.slice A 256 C] w (OpenPost 256 z w) := by
  obtain ⟨w1, H, hZ⟩ := zeR w
  have HZ := Lib.hid hZ
  have HV1 := Lib.hid (h.gr hZ.ch)
  have HBY := Lib.hid h.bytes
  have t1 : ((256 : Int) != 256) = false := by simp
  clear hZ h
  go_enter Tryz.func82, Tryz.ntmps82
  go_wp2_with ((with_reducible refine wpList_isOp (.alloc 80) rfl ?_); refine wpList_making _ w1 rfl 80 rfl (bkC bk0) H (zero_bk _) (by exact HZ.out.sz) (by exact HZ.out.al) ?_)
  refine (bread_any A C z _ HV1.out).mono ?_
  rintro e w2 ⟨A2, C2, rfl, ho2, hc2⟩
  obtain ⟨r, hr⟩ : ∃ r, r = readB (.slice A2 (rdLen z) C2) z := ⟨_, rfl⟩
  have hrV : r.V = .slice A2 r.len C2 := by rw [hr]; rfl
  have hrow2 := ownsRow_rowV ho2 (by have := readL_le z; omega) (fun c hc => HBY.out _ (by have := readL_le z; omega))
  have hr2 : BkIs w2 r := by rw [hr]; exact readB_is HBY.out hrow2
  obtain ⟨w3, H3, hZ3⟩ := zeR w2
  obtain ⟨w4, h4⟩ := stR (b := r) hZ3.cx ⟨_, _, _, hrV⟩
  have hc4 : Ch (fun _ => False) w2 w4 := hZ3.ch.over h4.ch (by rw [hZ3.sz]; exact Nat.le_refl _)
  have HR4 := Lib.hid (hr2.gr hc4)
  have HL4 := Lib.hid (load_bk h4.cx)
  have HZ3 := Lib.hid hZ3
  have H4 := Lib.hid h4
  have HC14 := Lib.hid (hc2.trans hc4)
  have HV4 := Lib.hid (HV1.out.gr (hc2.trans hc4))
  have HRV := Lib.hid hrV
  have HSE := Lib.hid (show mayB (readB undef z) = mayB r by rw [hr]; rfl)
  have HSZ := Lib.hid (show sectZ (readB undef z) = sectZ r by rw [hr]; rfl)
  have HRD := Lib.hid hr
  have HO4 := Lib.hid (show w4.ownsRow w1.heap.size /-t-/5 1 (.slice A2 r.len C2) r.len (bytesL r.len r.z) by
    rw [hr]
    exact ownsRow_ch ho2 hc4)
  rw [← hr]
  clear ho2 hc2 hrow2 hr2 hZ3 h4 hc4 hrV hr
  go_wp2_with (first
    | ((with_reducible refine wpList_isOp (.alloc 80) rfl ?_); refine wpList_making _ w3 rfl 80 rfl (bkC bk0) H3 (zero_bk _) (by exact HZ3.out.sz) (by exact HZ3.out.al) ?_)
    | ((with_reducible refine wpList_isOp (.store 80 (.tmp 4) (.tmp 12)) rfl ?_); refine wpList_storing _ w4 rfl 80 (.tmp 4) (.tmp 12) rfl (.agg (bkC r)) ⟨H3, 0, none⟩ rfl rfl (by exact H4.out.st) ?_)
    | ((with_reducible refine wpList_isOp (.load 80 (.tmp 4)) rfl ?_); refine wpList_loading _ rfl 80 (.tmp 4) rfl (.agg (bkC r)) ⟨H3, 0, none⟩ rfl (by exact HL4.out) ?_))
  refine (bseal_any r A2 C2 _ HRV.out HR4.out).mono ?_
  rintro e w5 ⟨A5, C5, rfl, ho5, hc5⟩
  have HC15 := Lib.hid (HC14.out.trans hc5)
  have hcx1 : w5.heap[H]? = some (.cells (bkC bk0) 80 (0, 0)) := (HC15.out.block H (blk_lt (o := .cells (bkC bk0) 80 (0, 0)) HZ.out.cx) (fun f => f)).trans HZ.out.cx
  have hcx4 : w5.heap[H3]? = some (.cells (bkC r) 80 (0, 0)) := (hc5.block H3 (blk_lt (o := .cells (bkC r) 80 (0, 0)) H4.out.cx) (fun f => f)).trans H4.out.cx
  have HL5 := Lib.hid (load_bk hcx4)
  have HV5 := Lib.hid (HV4.out.gr hc5)
  have HRb := Lib.hid (HR4.out.gr hc5)
  obtain ⟨wn, hn⟩ := stR (b := bk0) hcx1 bk0_V
  obtain ⟨wy, hy⟩ := stR (b := r) hcx1 ⟨_, _, _, HRV.out⟩
  have hH : w.heap.size ≤ H := by rw [HZ.out.sz]; exact Nat.le_refl _
  have HN := Lib.hid hn
  have HY := Lib.hid hy
  have HPN := Lib.hid (show opensB 256 z = false → OpenPost 256 z w (.returned (.tuple #[.agg (bkC bk0), .int .i64 7])) wn from fun q =>
    openPost_no q (by rw [openE_at, q]; rfl) ((HZ.out.ch.trans HC15.out).over hn.ch hH))
  have HPY := Lib.hid (show opensB 256 z = true → OpenPost 256 z w (.returned (.tuple #[.agg (bkC r), .int .i64 0])) wy from fun q => by
    have hb : BkIs wy r := by
      have hb5 := HRb.out
      have ho5y := ownsRow_ch HO4.out hc5
      have hoy : wy.ownsRow w1.heap.size /-t-/5 1 (.slice A2 r.len C2) r.len (bytesL r.len r.z) := own_of ho5y (fun i hi => hy.ch.block i (World.ownsRow.lt ho5y i hi).2 (fun e => by
        have h5 := (World.ownsRow.lt ho5y i hi).1
        have h6 := blk_lt (o := .cells (bkC bk0) 80 (0, 0)) HZ.out.cx
        omega))
      refine ⟨hb5.kind, hb5.vol, hb5.addr, hb5.epoch, hb5.seq, ?_⟩
      rw [HRV.out]
      exact ownsRow_rowV hoy (by
        obtain ⟨_, _, _, hh, _⟩ := hb5.row
        exact hh.1) hb5.row.bytes
    rw [HRD.out] at hb ⊢
    exact openPost_yes q (by rw [openE_at, q]; rfl) hb ((HZ.out.ch.trans HC15.out).over hy.ch hH))
  have HAT := Lib.hid (show opensB 256 z = (mayB r && eqB 256 256 (sectZ r) z) by rw [opensB_at, HSE.out, HSZ.out])
  have HSB := Lib.hid (show Bytes 256 (sectZ r) from sectZ_b HRb.out.row.bytes 256)
  by_cases hm : mayB r = true
  · have hN : sealN r = 256 := by unfold sealN; rw [hm]; rfl
    have hE : sealE r = 0 := of_decide_eq_true (by rw [← sealE_may]; exact hm)
    rw [hN] at ho5
    have HS5 := Lib.hid (ownsRow_rowV ho5 (by omega) HSB.out)
    have HQ := Lib.hid (show opensB 256 z = eqB 256 256 (sectZ r) z by rw [HAT.out, hm, Bool.true_and])
    rw [hN, hE]
    obtain ⟨q, hq⟩ : ∃ q, q = eqB 256 256 (sectZ r) z := ⟨_, rfl⟩
    have HEQ := Lib.hid hq
    rw [← hq] at HQ
    clear ho5 hc5 hn hy hcx1 hcx4 hN hE hm hq
    go_wp2_with fail
    refine (equal_any _ _ 256 256 _ _ _ _ _ HS5.out HV5.out).mono ?_
    rintro e w6 ⟨rfl, rfl⟩
    rw [← HEQ.out]
    cases q
    · go_wp2_with ((with_reducible refine wpList_isOp (.store 80 (.tmp 2) (.tmp 26)) rfl ?_); refine wpList_storing _ wn rfl 80 (.tmp 2) (.tmp 26) rfl (.agg (bkC bk0)) ⟨H, 0, none⟩ rfl rfl (by exact HN.out.st) ?_)
      exact bodyPost_ret (v := .tuple #[.agg (bkC bk0), .int .i64 7]) (results_bk Tryz.results82 _ _ H bk0 rfl HN.out.cx) rfl (HPN.out HQ.out)
    · go_wp2_with (first
        | ((with_reducible refine wpList_isOp (.load 80 (.tmp 4)) rfl ?_); refine wpList_loading _ rfl 80 (.tmp 4) rfl (.agg (bkC r)) ⟨H3, 0, none⟩ rfl (by exact HL5.out) ?_)
        | ((with_reducible refine wpList_isOp (.store 80 (.tmp 2) (.tmp 27)) rfl ?_); refine wpList_storing _ wy rfl 80 (.tmp 2) (.tmp 27) rfl (.agg (bkC r)) ⟨H, 0, none⟩ rfl rfl (by exact HY.out.st) ?_))
      exact bodyPost_ret (v := .tuple #[.agg (bkC r), .int .i64 0]) (results_bk Tryz.results82 _ _ H r rfl HY.out.cx) rfl (HPY.out HQ.out)
  · have hm : mayB r = false := by simpa using hm
    have HQ := Lib.hid (show opensB 256 z = false by rw [HAT.out, hm, Bool.false_and])
    have hE : sealE r ≠ 0 := fun e => by
      have := sealE_may (b := r)
      rw [hm, e] at this
      cases this
    obtain ⟨E, hEE⟩ : ∃ E, E = sealE r := ⟨_, rfl⟩
    rw [← hEE] at hE ⊢
    have t2 : (E != 0) = true := by simpa using hE
    clear ho5 hc5 hn hy hcx1 hcx4 hm hE hEE
    go_wp2_with ((with_reducible refine wpList_isOp (.store 80 (.tmp 2) (.tmp 26)) rfl ?_); refine wpList_storing _ wn rfl 80 (.tmp 2) (.tmp 26) rfl (.agg (bkC bk0)) ⟨H, 0, none⟩ rfl rfl (by exact HN.out.st) ?_)
    exact bodyPost_ret (v := .tuple #[.agg (bkC bk0), .int .i64 7]) (results_bk Tryz.results82 _ _ H bk0 rfl HN.out.cx) rfl (HPN.out HQ.out)
theorem bopen_any (A : Option Addr) (n C : Nat) (z : Nat → Nat) (w : World) (h : RowV w (.slice A n C) n z) : Calls Tryz.prog 82 #[.slice A n C] w (OpenPost n z w) := by
  by_cases e : n = 256
  · subst e; exact open_at A C z w h
  · obtain ⟨_, _, _, h2, _⟩ := id h
    exact open_long A n C z w h2.1 e
end Go.Proofs.YteleknojohnlbaaGreat
namespace Go.Proofs.YteleknojohnlbaaGreat
open Go.RowKit
set_option linter.unusedVariables false
set_option maxRecDepth 100000

def classQ (q1 q2 q3 q4 q5 : Bool) : Int := if q1 || q2 then 3 else if q3 || q4 || q5 then 2 else 1
end Go.Proofs.YteleknojohnlbaaGreat
namespace Go.Proofs.YteleknojohnlbaaGreat
open Go.RowKit
set_option linter.unusedVariables false
set_option maxRecDepth 100000

/-- The first k of four bytes from a on have been changed. -/
def fewZ (z y : Nat → Nat) (a k c : Nat) : Nat := if a ≤ c ∧ c < a + k then z c ^^^ y (c - a) else z c
def fewB (y : Nat → Nat) : Nat → Bool
  | 0 => false
  | k + 1 => fewB y k || (y k != 0)
theorem fewZ_step (z y : Nat → Nat) (a k c : Nat) : fewZ z y a (k + 1) c = if c = a + k then z (a + k) ^^^ y k else fewZ z y a k c := by
  unfold fewZ
  by_cases e : c = a + k
  · subst e; rw [if_pos (by omega), if_pos rfl, Nat.add_sub_cancel_left]
  · rw [if_neg e]
    by_cases q : a ≤ c ∧ c < a + k
    · rw [if_pos (by omega), if_pos q]
    · rw [if_neg (by omega), if_neg q]
theorem fewB_four (y : Nat → Nat) : fewB y 4 = false ↔ y 0 = 0 ∧ y 1 = 0 ∧ y 2 = 0 ∧ y 3 = 0 := by
  simp [fewB, and_assoc]
theorem few_whole {n a : Nat} {z y : Nat → Nat} (hz : Bytes n z) (hy : Bytes 4 y) (ha : a ≤ n) : Crc.wholeB (n + 4) (fewZ (Crc.sealZ n z) y a 4) = !fewB y 4 := by
  obtain ⟨d, hd⟩ : ∃ d : Nat → Nat, d = fun c => if a ≤ c ∧ c < a + 4 then y (c - a) else 0 := ⟨_, rfl⟩
  have e : ∀ c, d c = if a ≤ c ∧ c < a + 4 then y (c - a) else 0 := fun c => by rw [hd]
  have d4 : ∀ j, j < 4 → d (a + j) = y j := fun j hj => by rw [e, if_pos (by omega), Nat.add_sub_cancel_left]
  have key := Crc.few (n := n) (at' := a) (z := z) (d := d) hz
    (fun i => by
      rw [e]; split
      · exact hy _ (by omega)
      · omega) ha (fun i hi => by rw [e, if_neg (by omega)])
  have d0 := d4 0 (by omega)
  rw [Nat.add_zero] at d0
  rw [d0, d4 1 (by omega), d4 2 (by omega), d4 3 (by omega), ← fewB_four] at key
  have e2 : Crc.wholeB (n + 4) (fewZ (Crc.sealZ n z) y a 4) = Crc.wholeB (n + 4) (fun i => Crc.sealZ n z i ^^^ d i) := Crc.wholeB_congr fun i _ => by
    unfold fewZ
    rw [e]
    split
    · rfl
    · rw [Nat.xor_zero]
  rw [e2]
  unfold Crc.wholeB
  cases hb : fewB y 4
  · exact decide_eq_true (key.2 hb)
  · exact decide_eq_false fun h => by rw [key.1 h] at hb; cases hb
structure FewRel (w : World) (g n C : Nat) (z y : Nat → Nat) (a k : Nat) (wr : World) : Prop where
  own : wr.ownsRow w.heap.size /-t-/5 1 (.slice (some ⟨g, 0, none⟩) n C) n (bytesL n (fewZ z y a k))
  ch : Ch (fun _ => False) w wr
theorem FewRel.base_le {w : World} {g n C : Nat} {z y : Nat → Nat} {a k : Nat} {wr : World} (h : FewRel w g n C z y a k wr) : w.heap.size ≤ g := (World.ownsRow.lt h.own g rfl).1
theorem FewRel.drew {w : World} {g n C : Nat} {z y : Nat → Nat} {a k : Nat} {wr : World} (h : FewRel w g n C z y a k wr) : FewRel w g n C z y a k wr.drew := ⟨ownsRow_ch h.own (Ch.refl _ _).drew, h.ch.drew⟩
theorem FewRel.step {w : World} {g n C : Nat} {z y : Nat → Nat} {a k : Nat} {wr : World} (h : FewRel w g n C z y a k wr) :
    FewRel w g n C z y a (k + 1) (wr.setCell ⟨g, a + k, none⟩ (.int .u8 ((z (a + k) ^^^ y k : Nat) : Int))) := by
  refine ⟨?_, h.ch.setCell (p := ⟨g, a + k, none⟩) (Or.inr h.base_le) _⟩
  have := (World.ownsRow.stored h.own (a + k) (.int .u8 ((z (a + k) ^^^ y k : Nat) : Int))).1
  rw [bytesL_set] at this
  rw [bytesL_congr fun c _ => fewZ_step z y a k c]
  exact this
end Go.Proofs.YteleknojohnlbaaGreat
namespace Go.Proofs.YteleknojohnlbaaGreat
open Go.RowKit
set_option linter.unusedVariables false
set_option maxRecDepth 100000

theorem secZ_congr {a b : Bk} (hk : a.kind = b.kind) (hv : a.vol = b.vol) (ha : a.addr = b.addr) (he : a.epoch = b.epoch) (hs : a.seq = b.seq) (hl : a.len = b.len) (hz : ∀ c, c < b.len → a.z c = b.z c) (c : Nat) : secZ a c = secZ b c := by
  have hh : headZ a = headZ b := by
    unfold headZ f1 f2 f3
    rw [hk, hv, ha, he, hs, hl]
  unfold secZ
  rw [hh, hl]
  split
  · rfl
  · split
    · exact hz _ (by omega)
    · rfl
theorem sectZ_congr {a b : Bk} (h : ∀ c, secZ a c = secZ b c) (c : Nat) : sectZ a c = sectZ b c := by
  unfold sectZ Crc.sealZ
  split
  · exact h c
  · rw [Crc.sumZ_congr fun i _ => h i]
theorem sectZ_num {b : Bk} (i : Nat) (hi : i < 4) (hx : f2 b i < 4294967296) : numZ (sectZ b) (4 + i * 4) = f2 b i := by
  have h := fun j (hj : j < 4) => (sectZ_front (b := b) (show 4 + i * 4 + j < 252 by omega)).trans (secZ_num i j hi hj)
  unfold numZ
  rw [show 4 + i * 4 = 4 + i * 4 + 0 from rfl, h 0 (by omega), Nat.add_zero, h 1 (by omega), h 2 (by omega), h 3 (by omega), Crc.byteOf_le4 hx]
structure Same (r b : Bk) : Prop where
  kind : r.kind = b.kind
  vol : r.vol = b.vol
  addr : r.addr = b.addr
  epoch : r.epoch = b.epoch
  seq : r.seq = b.seq
  len : r.len = b.len
  z : ∀ c, c < b.len → r.z c = b.z c
theorem back {b : Bk} (h : mayB b = true) (V : Value) : Same (readB V (sectZ b)) b := by
  obtain ⟨hn, hl⟩ := mayB_iff.1 h
  obtain ⟨k1, k2⟩ := hn.kind
  obtain ⟨v1, v2⟩ := hn.vol
  obtain ⟨a1, a2⟩ := hn.addr
  obtain ⟨e1, e2⟩ := hn.epoch
  obtain ⟨s1, s2⟩ := hn.seq
  have hlong : blkLong (sectZ b) = b.len := by
    unfold blkLong
    have l0 := (sectZ_front (b := b) (show 20 + 0 < 252 by omega)).trans (secZ_len 0 (by omega))
    have l1 := (sectZ_front (b := b) (show 20 + 1 < 252 by omega)).trans (secZ_len 1 (by omega))
    rw [Nat.add_zero] at l0
    rw [l0, l1]
    unfold Crc.byteOf
    simp only [Nat.reducePow]
    omega
  refine ⟨?_, ?_, ?_, ?_, ?_, ?_, fun c hc => ?_⟩
  · show ((sectZ b 2 : Nat) : Int) = b.kind
    rw [sectZ_front (by omega), secZ_first 2 (by omega) (by show b.kind.toNat < 256; omega)]
    show (b.kind.toNat : Int) = b.kind
    omega
  · show ((numZ (sectZ b) 4 : Nat) : Int) = b.vol
    have := sectZ_num (b := b) 0 (by omega) (by show b.vol.toNat < _; omega)
    rw [show 4 = 4 + 0 * 4 from rfl, this]
    show (b.vol.toNat : Int) = b.vol
    omega
  · show ((numZ (sectZ b) 8 : Nat) : Int) = b.addr
    have := sectZ_num (b := b) 1 (by omega) (by show b.addr.toNat < _; omega)
    rw [show 8 = 4 + 1 * 4 from rfl, this]
    show (b.addr.toNat : Int) = b.addr
    omega
  · show ((numZ (sectZ b) 12 : Nat) : Int) = b.epoch
    have := sectZ_num (b := b) 2 (by omega) (by show b.epoch.toNat < _; omega)
    rw [show 12 = 4 + 2 * 4 from rfl, this]
    show (b.epoch.toNat : Int) = b.epoch
    omega
  · show ((numZ (sectZ b) 16 : Nat) : Int) = b.seq
    have := sectZ_num (b := b) 3 (by omega) (by show b.seq.toNat < _; omega)
    rw [show 16 = 4 + 3 * 4 from rfl, this]
    show (b.seq.toNat : Int) = b.seq
    omega
  · show (if blkLong (sectZ b) ≤ 228 then blkLong (sectZ b) else 228) = b.len
    rw [hlong, if_pos hl]
  · show sectZ b (24 + c) = b.z c
    rw [sectZ_front (by omega), secZ_body c hc]
theorem Same.may {r b : Bk} (h : Same r b) : mayB r = mayB b := by
  unfold mayB numB kindB wordsB
  rw [h.kind, h.vol, h.addr, h.epoch, h.seq, h.len]
theorem Same.sect {r b : Bk} (h : Same r b) (c : Nat) : sectZ r c = sectZ b c := sectZ_congr (secZ_congr h.kind h.vol h.addr h.epoch h.seq h.len h.z) c
theorem opensB_own {b : Bk} (h : mayB b = true) : opensB 256 (sectZ b) = true := by
  have s := back h undef
  rw [opensB_at, s.may, h, Bool.true_and]
  exact decide_eq_true ⟨rfl, fun c _ => s.sect c⟩
/-- What opens is whole. -/
theorem opens_whole {z : Nat → Nat} (h : opensB 256 z = true) : Crc.wholeB 256 z = true := by
  rw [opensB_at, Bool.and_eq_true] at h
  have he := (of_decide_eq_true h.2).2
  rw [Crc.wholeB_congr (n := 256) (y := sectZ (readB undef z)) fun i hi => (he i hi).symm]
  exact decide_eq_true Crc.sealed_whole
theorem opens_zero : opensB 256 (fun _ => 0) = false := by
  rw [opensB_at]
  have : eqB 256 256 (sectZ (readB undef fun _ => 0)) (fun _ => 0) = false := decide_eq_false fun q => by
    have e0 := q.2 0 (by omega)
    rw [sectZ_front (by omega), secZ_first 0 (by omega) (by show 81 < 256; omega)] at e0
    cases e0
  rw [this, Bool.and_false]
end Go.Proofs.YteleknojohnlbaaGreat
namespace Go.Proofs.YteleknojohnlbaaGreat
open Go.RowKit
set_option linter.unusedVariables false
set_option maxRecDepth 100000

section
variable {P : Program} {ops : Array Oper} {Q : Exit → Act → World → Prop}
theorem rowsIn_of {n : Nat} {row : String} {args : Array Value} {w : World} {R : Value → World → Prop} (h : Rows P row args w R) : RowsIn Fence.wide n P row args w R :=
  fun c cs _ => let ⟨v, w', r, s⟩ := h c cs; ⟨v, w', r, stepsIn_wide.2 s⟩
theorem operIn_of {o : Oper} {a : Act} {w : World} {K : Act → World → Prop} {l n : Nat} (hnd : ∀ c, o.op ≠ .defer c) (h : o.wp P a w K Q) : o.wpIn (Fence.wide.inRound l) n P a w K Q := by
  refine ⟨fun _ _ => trivial, ?_⟩
  rw [Fence.inRound_round, Oper.semAt_some _ _ _ hnd]
  unfold Oper.wp at h
  generalize (execOp a.eval o).run P w = r at *
  have hd : (Fence.wide.inRound l).depth.isSome = true → 1 ≤ n := fun e => by simp [Fence.wide, Fence.inRound] at e
  cases r with
  | ok x w' =>
    cases x <;> simp only [Oper.upon] at h <;> simp only [Oper.uponIn] <;> first
      | exact h
      | exact ⟨hd, (callsIn_wide.2 h).mono (fun e w'' he => by cases e <;> exact he)⟩
      | exact ⟨hd, rowsIn_of h⟩
      | exact h.elim
  | halt x w' => cases x <;> simp only [Oper.upon] at h <;> simp only [Oper.uponIn] <;> first | exact h | exact h.elim
def noDefer (ops : Array Oper) : Bool := ops.all fun o => match o.op with | .defer _ => false | _ => true
theorem noDefer_spec (h : noDefer ops = true) {j : Nat} {o : Oper} (ho : ops[j]? = some o) (c : Call) : o.op ≠ .defer c := fun e => by
  have h1 := Array.all_eq_true_iff_forall_mem.1 h o (Array.mem_of_getElem? ho)
  rw [e] at h1
  cases h1
theorem opsIn_of {l n : Nat} (hnd : noDefer ops = true) (hq : ¬ LetsOut Q) : ∀ (L : List Nat) (a : Act) (w : World), wpOps P ops Q L a w → wpOpsIn (Fence.wide.inRound l) n P ops Q L a w
  | [], _, _, h => h
  | i :: rest, a, w, h => by
    simp only [wpOps] at h
    simp only [wpOpsIn]
    cases ho : ops[i]? with
    | none => simp only [ho] at h; exact opsIn_of hnd hq rest _ _ h
    | some o =>
      simp only [ho] at h ⊢
      split
      · rename_i hw
        simp only [hw, if_true] at h
        rcases h with h | ⟨_, h⟩
        · exact operIn_of (noDefer_spec hnd ho) (Oper.wp_mono (fun a w => opsIn_of hnd hq rest a w) h)
        · exact absurd h hq
      · rename_i hw
        simp only [hw] at h
        exact ⟨fun _ _ => trivial, opsIn_of hnd hq rest _ _ h⟩
/-- In a round, whichever order. -/
theorem wpIn_round_any {id l n : Nat} {a : Act} {w : World} (hm : P.follows .mixedOrders = true) (hnd : noDefer ops = true) (hq : ¬ LetsOut Q)
    (h : wpAny P .any ops Q ops.size (Array.replicate ops.size false) a { w with drawn := w.drawn + 1 }) : (Code.region id ops true).wpIn (Fence.wide.inRound l) n P Q a w :=
  wpIn_region_draw fun t => by
    simp only [Region.schedule, hm, Bool.true_or, if_true]
    exact opsIn_of hnd hq _ _ _ (wpAny_sound ops.size t _ a _ h)
theorem wpIn_round_held {id l n : Nat} {a : Act} {w : World} (S : World → Prop) (hm : P.follows .mixedOrders = true) (hnd : noDefer ops = true) (hq : ¬ LetsOut Q)
    (h : wpAnyH P .any ops Q S ops.size (Array.replicate ops.size false) a { w with drawn := w.drawn + 1 }) : (Code.region id ops true).wpIn (Fence.wide.inRound l) n P Q a w :=
  wpIn_round_any hm hnd hq (wpAny_of_held _ _ _ _ h)
/-- In a round: a region that reads, and ends in a chain that waits for all of that. -/
theorem wpIn_round_tail {id l n : Nat} {a : Act} {w : World} {L : List Oper} (k : Nat) (hm : P.follows .mixedOrders = true) (hnd : noDefer L.toArray = true) (hq : ¬ LetsOut Q) (hB : Region.lexTailB .any L.toArray k = true)
    (h : wpStill P L.toArray { w with drawn := w.drawn + 1 } (fun a' => wpList P L.toArray Q (L.drop k) a' { w with drawn := w.drawn + 1 }) (L.take k) a) : (Code.region id L.toArray true).wpIn (Fence.wide.inRound l) n P Q a w := by
  simp only [Region.lexTailB, Bool.and_eq_true, decide_eq_true_eq] at hB
  obtain ⟨⟨⟨⟨hsel, hn⟩, hs⟩, hc⟩, hlex⟩ := hB
  have hn' : k < L.length := by simpa using hn
  have htl : (L.take k).length = k := by simp; omega
  have hdl : (L.drop k).length = L.toArray.size - k := by simp
  have inv0 : HeadInv .any L.toArray k (Array.replicate L.toArray.size false) :=
    ⟨by simp, fun j oj _ hl => (by rw [getD_replicate_false] at hl; cases hl), fun t _ ht => getD_in (by simpa using ht) (getD_replicate_false _ _)⟩
  have H := wpAnyL_lex (md := .any) (g := L.toArray.size - k) hsel hs hc hn (L.take k) 0 _ a (fun j hj => by
    have hj' : j < k := by rw [htl] at hj; exact hj
    simp [hj']) (by simpa using htl) inv0 (by rw [htl]; exact hlex) h
  refine wpIn_round_any hm hnd hq ?_
  have := wpAny_of_head (Q' := Q) (g := L.toArray.size - k) (fun listed a' hL => by
    have := wpAny_of_seq (md := .any) (Q' := Q) (L.drop k) k listed a' { w with drawn := w.drawn + 1 } (fun j => by simp [List.getElem?_drop]) (by rw [hdl]; exact hL.1) hL.2
    rwa [hdl] at this) _ _ _ H
  rw [htl, show k + (L.toArray.size - k) = L.toArray.size by omega] at this
  exact this
end
end Go.Proofs.YteleknojohnlbaaGreat
