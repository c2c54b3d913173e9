/-
  mat.besideOne and mat.columns, walked: a copy with One beside it; the columns of a copy. The document's May, Same, walked; mat.pivot.
-/
import Derived.Test.YtlbdopcchoklhaaGreatMh12
import Derived.Laws.IdiomCopy
import Derived.Test.YtlbdopcchoklhaaGreatMh11
namespace Go.Proofs.YtlbdopcchoklhaaGreat
open Go.RowKit
set_option linter.unusedVariables false
set_option maxRecDepth 100000

/-! ### copy, into a row of one's own -/
theorem rowIs_setCells {b : Nat} {t : TypeId} {m : Nat} (g : Nat → Value) : ∀ (n o : Nat) (w : World) (f : Nat → Value), w.rowIs b t m f → (w.setCells b o ((List.range' o n).map g)).rowIs b t m (fun j => if o ≤ j ∧ j < o + n then g j else f j)
  | 0, o, w, f, h => h.congr fun j _ => by rw [if_neg (by omega)]
  | n + 1, o, w, f, h => by
    have := rowIs_setCells g n (o + 1) (w.setCell ⟨b, o, none⟩ (g o)) _ (h.set o (g o))
    refine World.rowIs.congr (w := w.setCells b o ((List.range' o (n + 1)).map g)) this fun j _ => ?_
    by_cases e : j = o
    · subst e; rw [if_neg (by omega), if_pos rfl, if_pos (by omega)]
    · rw [if_neg e]
      by_cases q : o + 1 ≤ j ∧ j < o + 1 + n
      · rw [if_pos q, if_pos (by omega)]
      · rw [if_neg q, if_neg (by omega)]
theorem ch_setCells {b : Nat} : ∀ (vs : List Value) (o : Nat) (w0 w : World), Ch (fun j => j = b) w0 w → Ch (fun j => j = b) w0 (w.setCells b o vs)
  | [], _, _, _, h => h
  | v :: r, o, w0, w, h => ch_setCells r (o + 1) w0 _ (h.setCell (p := ⟨b, o, none⟩) (Or.inl rfl) v)
theorem copy_row {w : World} {b m n b2 o2 C : Nat} {z x : Nat → Nat} (h : bRow w b m z) (hnm : n ≤ m) (hx : ∀ c, c < n → w.cell? ⟨b2, o2 + c, none⟩ = some (.int .u8 (x c : Int))) :
    ∃ w1, (∀ ty, (Builtin.copy_ #[ /-t-/24, /-t-/24] ty #[.slice (some ⟨b, 0, none⟩) m m, .slice (some ⟨b2, o2, none⟩) n C]).run Tryz.prog w = .ok (goInt n) w1) ∧ bRow w1 b m (part n z x) ∧ Ch (fun j => j = b) w w1 := by
  have hlen : ((List.range' 0 n).map fun c => Value.int .u8 (x c : Int)).length = n := by simp
  refine ⟨w.setCells b 0 ((List.range' 0 n).map fun c => Value.int .u8 (x c : Int)), fun ty => ?_, ?_, ch_setCells _ _ _ _ (Ch.refl _ _)⟩
  · have := run_copy_cells (P := Tryz.prog) w /-t-/24 /-t-/24 ty /-t-/5 b 0 m m ⟨b2, o2, none⟩ n C ((List.range' 0 n).map fun c => Value.int .u8 (x c : Int)) Tryz.underlying24 (by kernel_rfl) (by rw [hlen]; exact (Nat.min_eq_left hnm).symm)
      (fun j v hv => by
        rw [List.getElem?_map] at hv
        by_cases hj : j < n
        · rw [List.getElem?_range' hj] at hv
          simp only [Option.map_some, Option.some.injEq, Nat.zero_add, Nat.one_mul] at hv
          subst hv
          rw [show (⟨b2, o2, none⟩ : Addr).add j = ⟨b2, o2 + j, none⟩ from by unfold Addr.add; split <;> simp_all]
          exact hx j hj
        · rw [List.getElem?_eq_none (by simp; omega)] at hv
          simp at hv)
      (fun j hj => by rw [hlen] at hj; rw [Nat.zero_add, World.rowIs.cell h (by omega)]; rfl)
      (fun j _ => World.rowIs.frozen h _)
      (fun v hv => by
        obtain ⟨c, _, rfl⟩ := List.mem_map.1 hv
        rfl)
    rw [hlen] at this
    exact this
  · refine World.rowIs.congr (rowIs_setCells (fun c => Value.int .u8 (x c : Int)) n 0 w _ h) fun c _ => ?_
    by_cases q : c < n
    · rw [if_pos (by omega), part_lt q]
    · rw [if_neg (by omega), part_ge q]

/-! ### besideOne -/
structure BesAt (w0 : World) (pm pn n : Nat) (va : Value) (X : Nat → Nat → Nat) : Prop where
  a : MatV w0 va n (fun _ => n) X
  ca : w0.cell? ⟨pm, 0, none⟩ = some va
  cn : w0.cell? ⟨pn, 0, none⟩ = some (.int .i64 (n : Int))
  n1 : 1 ≤ n
  n2 : n ≤ 64
theorem mul2 (n : Nat) : 2 * (n : Int) = ((2 * n : Nat) : Int) := by omega
set_option maxHeartbeats 1600000 in
theorem bes1_any (w0 : World) (pm pn n : Nat) (va : Value) (X : Nat → Nat → Nat) (h : BesAt w0 pm pn n va X) (i br : Nat) (hi : i < n) (hbr : w0.heap.size ≤ br) (w : World) (hch : Ch (fun j => w0.heap.size ≤ j) w0 w) (hrow : bRow w br (2 * n) (fun _ => 0)) :
    Calls Tryz.prog 148 #[.int .i64 (i : Int), .slice (some ⟨br, 0, none⟩) (2 * n) (2 * n), .pointer (some ⟨pm, 0, none⟩), .pointer (some ⟨pn, 0, none⟩)] w (RowPost br (2 * n) (fun c => besZ n X i c) w) := by
  obtain ⟨ha, ca, cn, n1, n2⟩ := h
  obtain ⟨ba, oa, Ca, rfl, _, hra⟩ := ha.some (by omega)
  obtain ⟨Ai, Di, cai, _, hai⟩ := hra i hi
  obtain ⟨bi, oi, rfl, hai2⟩ := hai (by omega)
  clear hai hra
  have keep : ∀ {p : Addr} {v : Value}, w0.cell? p = some v → w.cell? p = some v := fun {p v} q => hch.cell q (Nat.not_le.2 (World.block_lt_of_cell? _ _ q))
  have e1 := keep ca
  have e2 := keep cai
  obtain ⟨w1, hcopy, hr1, hc1⟩ := copy_row (n := n) (C := Di) hrow (by omega) (fun c hc => keep (hai2 c hc).1)
  have hcp := fun ty => (hcopy ty)
  have e3 : w1.cell? ⟨pn, 0, none⟩ = some (.int .i64 (n : Int)) := hc1.cell (keep cn) (fun e => by have := World.block_lt_of_cell? _ _ cn; have e' : pn = br := e; have : pn < w0.heap.size := this; omega)
  have e4 := World.rowIs.cell hr1 (i := n + i) (by omega)
  have f4 := World.rowIs.frozen hr1 (n + i)
  have HR := Lib.hid hr1
  have HC := Lib.hid hc1
  have hni : n + i < 2 * n := by omega
  have i1 : (0 : Int) ≤ (n : Int) + (i : Int) := by omega
  have i2 : (n : Int) + (i : Int) < ((2 * n : Nat) : Int) := by omega
  have i3 : ((n : Int) + (i : Int)).toNat = n + i := by omega
  clear keep ca cn cai ha hai2 hcopy hr1 hc1 hrow hch
  go_enter Tryz.func148, Tryz.ntmps148
  go_wp2
  go_end0
  refine ⟨rfl, World.rowIs.congr (World.rowIs.set HR.out (n + i) _) fun c _ => ?_, HC.out.setCell (p := ⟨br, n + i, none⟩) (Or.inl rfl) _⟩
  show _ = Value.int .u8 (besZ n X i c : Int)
  unfold besZ
  by_cases e : c = n + i
  · rw [if_pos e, if_neg (by omega), if_pos e]; rfl
  · rw [if_neg e]
    by_cases q : c < n
    · rw [if_pos q, part_lt q]
    · rw [if_neg q, if_neg e, part_ge q]
theorem besZ_lt {n : Nat} {X : Nat → Nat → Nat} {r c : Nat} (h : c < n → X r c < 256) : besZ n X r c < 256 := by
  unfold besZ
  by_cases q : c < n
  · rw [if_pos q]; exact h q
  · rw [if_neg q]; split <;> omega
theorem bes1_turns (w0 w2 : World) (pm pn n : Nat) (va : Value) (X : Nat → Nat → Nat) (h : BesAt w0 pm pn n va X) (t : Nat) (B : Nat → Nat) (hs : ∀ r, r < n → w0.heap.size ≤ B r) (hch : Ch (fun j => w0.heap.size ≤ j) w0 w2) :
    Turns 148 #[.pointer (some ⟨pm, 0, none⟩), .pointer (some ⟨pn, 0, none⟩)] t n (2 * n) B (fun i W => Own W t n (2 * n) B (uptoF i zeroZ (besZ n X)) ∧ Ch (fun j => w0.heap.size ≤ j) w2 W) := by
  intro i W hi hP
  refine ⟨hP.1.top.cell hi, ?_⟩
  have hB := hs i hi
  refine (bes1_any w0 pm pn n va X h i (B i) hi hB W (hch.trans hP.2) ((hP.1.row i hi).congr fun c _ => by rw [upto_ge (by omega)]; rfl)).mono ?_
  rintro e w' ⟨rfl, hr, hc⟩
  exact ⟨rfl, hP.1.step hi hc hr (fun c _ => besZ_lt (fun hc => h.a.byte hi hc)), hP.2.trans (hc.mono fun j _ e => by rw [e]; exact hB)⟩
def OwnPost (n m : Nat) (Z : Nat → Nat → Nat) (w : World) (e : Ending) (w' : World) : Prop :=
  ∃ g B, e = .returned (.slice (some ⟨g, 0, none⟩) n n) ∧ Own w' g n m B Z ∧ (∀ r, r < n → w.heap.size ≤ B r) ∧ w.heap.size ≤ g ∧ Ch (fun _ => False) w w'
set_option maxHeartbeats 1600000 in
theorem beside_any (va : Value) (n : Nat) (X : Nat → Nat → Nat) (w : World) (n1 : 1 ≤ n) (n2 : n ≤ 64) (ha : MatV w va n (fun _ => n) X) :
    Calls Tryz.prog 139 #[va] w (OwnPost n (2 * n) (besZ n X) w) := by
  obtain ⟨A, C, rfl, _, _⟩ := id ha
  obtain ⟨W, hW⟩ : ∃ W, W = (w.alloc (.cells #[.slice A n C] /-t-/37)).alloc (.cells #[.int .i64 (n : Int)] /-t-/3) := ⟨_, rfl⟩
  have hWc : Ch (fun _ => False) w W := by rw [hW]; exact ((Ch.refl _ _).alloc _ _).alloc _ _
  have hWs : W.heap.size = w.heap.size + 2 := by rw [hW]; simp
  have c1 : W.cell? ⟨w.heap.size, 0, none⟩ = some (.slice A n C) := by
    rw [hW, World.cell?_of_block (Below.heap_alloc _ _ w.heap.size (by simp))]; exact cell_of_one (heap_alloc_new w _)
  have c2 : W.cell? ⟨w.heap.size + 1, 0, none⟩ = some (.int .i64 (n : Int)) := by
    rw [hW]; exact cell_of_one (by simpa using heap_alloc_new (w.alloc (.cells #[.slice A n C] /-t-/37)) _)
  have hat : BesAt W w.heap.size (w.heap.size + 1) n (.slice A n C) X := ⟨ha.ch hWc (fun _ _ f => f), c1, c2, n1, n2⟩
  have HAT := Lib.hid hat
  have HWC := Lib.hid hWc
  have HWS := Lib.hid hWs
  clear hat hWc hWs c1 ha
  go_enter Tryz.func139, Tryz.ntmps139
  go_wp2_with fail
  have HW := Lib.hid hW
  clear hW
  rw [← HW.out]
  refine (blank_anyF _ _ (by omega) (by omega) (by omega) (by omega) W).mono ?_
  rintro e w2 ⟨rfl, hown, hch⟩
  rw [Int.toNat_natCast, show (2 * (n : Int)).toNat = 2 * n by omega] at hown
  rw [Int.toNat_natCast]
  have hT := bes1_turns W w2 _ _ _ _ X HAT.out W.heap.size (fun r => W.heap.size + 1 + r) (fun r _ => by omega) (hch.mono fun _ _ f => f.elim)
  have HT := Lib.hid hT
  have HO := Lib.hid hown
  have hws := HWS.out
  have hchw : Ch (fun _ => False) w w2 := HWC.out.trans hch
  have hsz2 : w.heap.size ≤ W.heap.size := by omega
  clear hown hT hch hws c2
  go_wp2_with fail
  refine (turn2_any 148 _ _ _ _ _ _ _ w2 (by omega) enter46 HT.out ⟨HO.out.start _, Ch.refl _ _⟩).mono ?_
  rintro e w3 ⟨rfl, hP, hch2⟩
  go_wp2
  go_ret
  refine ⟨_, _, rfl, hP.finish, fun r _ => by omega, hsz2, Ch.gr ?_⟩
  exact ((hchw.mono fun _ _ f => f.elim).trans hch2).mono fun i hi hS => by omega

/-! ### columns -/
structure ColAt (w0 : World) (pm p1 p2 g n m lo hi : Nat) (B : Nat → Nat) (Z : Nat → Nat → Nat) : Prop where
  a : Own w0 g n m B Z
  ca : w0.cell? ⟨pm, 0, none⟩ = some (.slice (some ⟨g, 0, none⟩) n n)
  c1 : w0.cell? ⟨p1, 0, none⟩ = some (.int .i64 (lo : Int))
  c2 : w0.cell? ⟨p2, 0, none⟩ = some (.int .i64 (hi : Int))
  n2 : n ≤ 64
  m2 : m ≤ 8192
  l : lo ≤ hi
  h : hi ≤ m
  s : lo < m
set_option maxHeartbeats 1600000 in
theorem col1_any (w0 : World) (pm p1 p2 g n m lo hi : Nat) (B : Nat → Nat) (Z : Nat → Nat → Nat) (h : ColAt w0 pm p1 p2 g n m lo hi B Z) (i br : Nat) (hin : i < n) (hbr : w0.heap.size ≤ br) (w : World) (hch : Ch (fun j => w0.heap.size ≤ j) w0 w) (hrow : bRow w br (hi - lo) (fun _ => 0)) :
    Calls Tryz.prog 152 #[.int .i64 (i : Int), .slice (some ⟨br, 0, none⟩) (hi - lo) (hi - lo), .pointer (some ⟨pm, 0, none⟩), .pointer (some ⟨p1, 0, none⟩), .pointer (some ⟨p2, 0, none⟩)] w (RowPost br (hi - lo) (fun c => colZ lo Z i c) w) := by
  obtain ⟨ha, ca, c1, c2, n2, m2, hl, hh, hs⟩ := h
  have keep : ∀ {p : Addr} {v : Value}, w0.cell? p = some v → w.cell? p = some v := fun {p v} q => hch.cell q (Nat.not_le.2 (World.block_lt_of_cell? _ _ q))
  have e1 := keep ca
  have e2 := keep (ha.top.cell hin)
  have e3 := keep c1
  have e4 := keep c2
  obtain ⟨w1, hcopy, hr1, hc1⟩ := copy_row (w := w.drew) (n := hi - lo) (C := m - lo) (b2 := B i) (o2 := lo) (x := fun c => colZ lo Z i c) (World.rowIs.drew hrow) (Nat.le_refl _) (fun c hc => by
    exact keep ((ha.row i hin).cell (i := lo + c) (by omega)))
  have hcp := fun ty => (hcopy ty)
  have HR := Lib.hid hr1
  have HC := Lib.hid hc1
  have i0 : (0 : Int) ≤ (i : Int) := Int.natCast_nonneg _
  have i1 : (i : Int) < (n : Int) := by omega
  have j0 : (0 : Int) ≤ (lo : Int) := Int.natCast_nonneg _
  have j3 : ¬ m = lo := by omega
  have j1 : (lo : Int) ≤ (hi : Int) := by omega
  have j2 : (hi : Int) ≤ (m : Int) := by omega
  clear keep ca c1 c2 ha hcopy hr1 hc1 hrow hch
  go_enter Tryz.func152, Tryz.ntmps152
  go_wp2
  go_still_tail 8, (by kernel_rfl)
  change wpList _ _ _ _ _ w.drew
  go_wp2
  go_end0
  refine ⟨rfl, World.rowIs.congr HR.out fun c hc => by rw [part_lt hc], ((Ch.refl _ w).drew).trans HC.out⟩
theorem col1_turns (w0 w2 : World) (pm p1 p2 g n m lo hi : Nat) (B : Nat → Nat) (Z : Nat → Nat → Nat) (h : ColAt w0 pm p1 p2 g n m lo hi B Z) (t : Nat) (D : Nat → Nat) (hs : ∀ r, r < n → w0.heap.size ≤ D r) (hch : Ch (fun j => w0.heap.size ≤ j) w0 w2) :
    Turns 152 #[.pointer (some ⟨pm, 0, none⟩), .pointer (some ⟨p1, 0, none⟩), .pointer (some ⟨p2, 0, none⟩)] t n (hi - lo) D (fun i W => Own W t n (hi - lo) D (uptoF i zeroZ (colZ lo Z)) ∧ Ch (fun j => w0.heap.size ≤ j) w2 W) := by
  intro i W hi' hP
  refine ⟨hP.1.top.cell hi', ?_⟩
  have hB := hs i hi'
  refine (col1_any w0 pm p1 p2 g n m lo hi B Z h i (D i) hi' hB W (hch.trans hP.2) ((hP.1.row i hi').congr fun c _ => by rw [upto_ge (by omega)]; rfl)).mono ?_
  rintro e w' ⟨rfl, hr, hc⟩
  exact ⟨rfl, hP.1.step hi' hc hr (fun c hc => h.a.byte i _ hi' (by have := h.h; have := h.l; omega)), hP.2.trans (hc.mono fun j _ e => by rw [e]; exact hB)⟩
set_option maxHeartbeats 1600000 in
theorem columns_any (g n m lo hi : Nat) (B : Nat → Nat) (Z : Nat → Nat → Nat) (w : World) (ha : Own w g n m B Z) (n2 : n ≤ 64) (m2 : m ≤ 8192) (hl : lo ≤ hi) (hh : hi ≤ m) (hs : lo < m) :
    Calls Tryz.prog 141 #[.slice (some ⟨g, 0, none⟩) n n, .int .i64 (lo : Int), .int .i64 (hi : Int)] w (OwnPost n (hi - lo) (colZ lo Z) w) := by
  obtain ⟨W, hW⟩ : ∃ W, W = ((w.alloc (.cells #[.slice (some ⟨g, 0, none⟩) n n] /-t-/37)).alloc (.cells #[.int .i64 (lo : Int)] /-t-/3)).alloc (.cells #[.int .i64 (hi : Int)] /-t-/3) := ⟨_, rfl⟩
  have hWc : Ch (fun _ => False) w W := by rw [hW]; exact (((Ch.refl _ _).alloc _ _).alloc _ _).alloc _ _
  have hWs : W.heap.size = w.heap.size + 3 := by rw [hW]; simp
  have c1 : W.cell? ⟨w.heap.size, 0, none⟩ = some (.slice (some ⟨g, 0, none⟩) n n) := by
    rw [hW, World.cell?_of_block (Below.heap_alloc _ _ w.heap.size (by simp; omega)), World.cell?_of_block (Below.heap_alloc _ _ w.heap.size (by simp))]; exact cell_of_one (heap_alloc_new w _)
  have c2 : W.cell? ⟨w.heap.size + 1, 0, none⟩ = some (.int .i64 (lo : Int)) := by
    rw [hW, World.cell?_of_block (Below.heap_alloc _ _ (w.heap.size + 1) (by simp))]; exact cell_of_one (by simpa using heap_alloc_new (w.alloc (.cells #[.slice (some ⟨g, 0, none⟩) n n] /-t-/37)) _)
  have c3 : W.cell? ⟨w.heap.size + 2, 0, none⟩ = some (.int .i64 (hi : Int)) := by
    rw [hW]; exact cell_of_one (by simpa using heap_alloc_new ((w.alloc (.cells #[.slice (some ⟨g, 0, none⟩) n n] /-t-/37)).alloc (.cells #[.int .i64 (lo : Int)] /-t-/3)) _)
  have hat : ColAt W w.heap.size (w.heap.size + 1) (w.heap.size + 2) g n m lo hi B Z := ⟨ha.ch hWc (fun f => f) (fun _ _ f => f), c1, c2, c3, n2, m2, hl, hh, hs⟩
  have HAT := Lib.hid hat
  have HWC := Lib.hid hWc
  have HWS := Lib.hid hWs
  have HS := Lib.hid (show ((hi : Int) - (lo : Int)).toNat = hi - lo by omega)
  clear hat hWc hWs ha
  go_enter Tryz.func141, Tryz.ntmps141
  go_wp2_with fail
  have HW := Lib.hid hW
  clear hW
  rw [← HW.out]
  refine (blank_anyF _ _ (by omega) (by omega) (by omega) (by omega) W).mono ?_
  rintro e w2 ⟨rfl, hown, hch⟩
  rw [Int.toNat_natCast, HS.out] at hown
  rw [Int.toNat_natCast]
  have hT := col1_turns W w2 _ _ _ _ _ _ _ _ _ Z HAT.out W.heap.size (fun r => W.heap.size + 1 + r) (fun r _ => by omega) (hch.mono fun _ _ f => f.elim)
  have HT := Lib.hid hT
  have HO := Lib.hid hown
  have hws := HWS.out
  have hchw : Ch (fun _ => False) w w2 := HWC.out.trans hch
  have hsz2 : w.heap.size ≤ W.heap.size := by omega
  clear hown hT hch hws c1 c2 c3
  go_wp2_with fail
  refine (turn3_any 152 _ _ _ _ _ _ _ _ w2 (by omega) enter50 HT.out ⟨HO.out.start _, Ch.refl _ _⟩).mono ?_
  rintro e w3 ⟨rfl, hP, hch2⟩
  go_wp2
  go_ret
  refine ⟨_, _, rfl, hP.finish, fun r _ => by omega, hsz2, Ch.gr ?_⟩
  exact ((hchw.mono fun _ _ f => f.elim).trans hch2).mono fun i hi hS => by omega
end Go.Proofs.YtlbdopcchoklhaaGreat
namespace Go.Proofs.YtlbdopcchoklhaaGreat
open Go.RowKit
set_option linter.unusedVariables false
set_option maxRecDepth 100000

def PivPost (n c : Nat) (Z : Nat → Nat → Nat) (w : World) (e : Ending) (w' : World) : Prop :=
  ∃ p : Nat, e = .returned (.int .i64 (p : Int)) ∧ w = w' ∧ c ≤ p ∧ p ≤ n ∧ (∀ r, c ≤ r → r < p → Z r c = 0) ∧ (p < n → 0 < Z p c)
set_option maxHeartbeats 1600000 in
theorem pivot_any (g n m c : Nat) (B : Nat → Nat) (Z : Nat → Nat → Nat) (w : World) (h : Own w g n m B Z) (hn : n ≤ 64) (hm : m ≤ 8192) (hc : c ≤ n) (hcm : c < m) :
    Calls Tryz.prog 149 #[.slice (some ⟨g, 0, none⟩) n n, .int .i64 c] w (PivPost n c Z w) := by
  have H := Lib.hid h
  clear h
  go_enter Tryz.func149, Tryz.ntmps149
  go_wp2
  go_loop [5] (fun i => ∃ k : Nat, c ≤ k ∧ k ≤ n ∧ i = .int .i64 k ∧ Hid (∀ r, c ≤ r → r < k → Z r c = 0)) (fun i => n - (intOf i).toNat)
  case atStart => exact ⟨c, Nat.le_refl _, hc, rfl, fun r h1 h2 => absurd h2 (by omega)⟩
  case round =>
    obtain ⟨k, hck, hk, rfl, HK⟩ := hrel
    by_cases hlt : k < n
    · have t1 : decide ((k : Int) < (n : Int)) = true := by simp; omega
      have c1 := H.out.top.cell hlt
      have c2 := (H.out.row k hlt).cell hcm
      by_cases hz : Z k c = 0
      · have t2 : ((Z k c : Int) == 0) = true := by simp [hz]
        have HS : Hid (∀ r, c ≤ r → r < k + 1 → Z r c = 0) := fun r h1 h2 => by
          by_cases e : r = k
          · rw [e]; exact hz
          · exact HK r h1 (by omega)
        clear hz
        go_wp2
        go_round
        case rel => exact ⟨k + 1, by omega, by omega, by go_num, HS⟩
        case measure => simp [intOf]; omega
      · have t2 : ((Z k c : Int) == 0) = false := by rw [beq_eq_false_iff_ne]; omega
        go_wp2
        go_ret
        exact ⟨k, rfl, rfl, hck, hk, HK.out, fun _ => by omega⟩
    · have t1 : decide (k < n) = false := by simp; omega
      go_wp2
      go_ret
      exact ⟨k, rfl, rfl, hck, hk, HK.out, fun q => absurd q hlt⟩
end Go.Proofs.YtlbdopcchoklhaaGreat
