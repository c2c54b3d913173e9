/-
  The document's own device (quartermasterref06), walked: Fault whole; law06.did.
-/
import Derived.Test.YtkbhpkpacojpcaaDrI
namespace Go.Proofs.Ytkbhpkpacojpcaa
open Go.RowKit
set_option linter.unusedVariables false

theorem rfault_any (base : Nat) (F : Nat → Prop) (q : Rh) (d : Dev) (f : Fa) (t : Nat) (w : World) (h : RefIs base F w q d) (hf : FaOk f) (hl : Lim d t) (hm : LimM d t) (ht : t ≤ 1000000) :
    Calls Try.prog 30 #[.pointer (some ⟨q.B, 0, none⟩), .agg (faC f)] w (RPost base F q.B (faultD d f) (.int .i64 (faultE d f)) w) := by
  unfold faultE faultD
  cases hb : hasB d f.pl
  · exact rfault_none base F q d f w h hf hb
  · have hW : d.W.length ≤ 1048575 := by have := hl.W; omega
    rw [if_pos rfl, if_pos rfl]
    by_cases k1 : f.kind = 1
    · rw [if_pos k1, if_pos k1]; exact rfault_rot base F q d f w h hf hb k1 hW
    rw [if_neg k1, if_neg k1]
    by_cases k2 : f.kind = 2
    · rw [if_pos k2, if_pos k2]; exact rfault_blank base F q d f w h hf hb k2 hW
    rw [if_neg k2, if_neg k2]
    by_cases k3 : f.kind = 3
    · rw [if_pos k3, if_pos k3]; exact rfault_lose base F q d f w h hf hb k3 hW
    rw [if_neg k3, if_neg k3]
    by_cases k4 : f.kind = 4
    · rw [if_pos k4, if_pos k4]; exact rfault_drop base F q d f w h hf hb k4 (fun a => by have := hl.drops a; omega)
    rw [if_neg k4, if_neg k4]
    by_cases k5 : f.kind = 5
    · rw [if_pos k5, if_pos k5]; exact rfault_miss base F q d f w h hf hb k5 (by have := hm f.pl.toNat; omega)
    rw [if_neg k5, if_neg k5]
    exact rfault_arg base F q d f w h hf hb ⟨k1, k2, k3, k4, k5⟩
#print axioms rfault_any

/-! ### did -/
/-- Cells of its own block turn. -/
theorem RefIs.turnB {base : Nat} {F : Nat → Prop} {w w' : World} {q : Rh} {d : Dev} (h : RefIs base F w q d) (dead armed : Bool) (left : Int) (ops : Nat) (l : Int) (hw : w'.heap[q.B]? = some (.cells (refC { q with lf := l } { d with dead := dead, armed := armed, left := left, ops := ops }) 69 (0, 0))) (k : ∀ g, g ≠ q.B → w'.heap[g]? = w.heap[g]?) (hs : w.heap.size ≤ w'.heap.size) (hl : I64 l) (ha : armed = true → l = left ∧ 0 ≤ left) :
    RefIs base F w' { q with lf := l } { d with dead := dead, armed := armed, left := left, ops := ops } := by
  have o := h.off h.blk (by decide)
  have oM := h.offM h.blk (by decide)
  have oV := h.offV h.blk (by decide)
  exact ⟨hw, h.sec.of_block (k _ h.BG.symm), h.los.of_block (k _ h.BL.symm), h.drp.of_block (k _ h.BP.symm), h.mis.of_block (k _ h.BQ.symm), own_of h.wts (fun i hi => k i (fun e => oV (e ▸ hi))), h.XW,
    fun a ha => (h.srow a ha).of (fun i hi => k i (fun e => o.1 a ha (e ▸ hi))), fun y hy => (h.xrow y hy).of (fun i hi => k i (fun e => o.2 y hy (e ▸ hi))), fun a ha => (h.ms a ha).of (fun i hi => k i (fun e => oM a ha (e ▸ hi))), h.mP,
    h.fB, h.fG, h.fL, h.fP, h.fQ, h.fV, h.fs, h.fx, h.fm, h.wok, h.mok, h.nn, hl, ha, h.low, fun i hi => Nat.lt_of_lt_of_le (h.hi i hi) hs⟩
theorem RefIs.arm {base : Nat} {F : Nat → Prop} {w : World} {q : Rh} {d : Dev} (h : RefIs base F w q d) (n : Int) (hn : I64 n) : RefIs base F ((w.setCell ⟨q.B, 5, none⟩ (.bool (decide (0 ≤ n)))).setCell ⟨q.B, 7, none⟩ (.int .i64 n)) { q with lf := n } (armD d n) := by
  refine h.turnB d.dead (decide (0 ≤ n)) n d.ops n ?_ (fun g hg => (Below.heap_setCell _ _ _ g hg).trans (Below.heap_setCell _ _ _ g hg)) (by simp [World.setCell]) hn (fun e => ⟨rfl, of_decide_eq_true e⟩)
  exact (blk_set (blk_set h.blk _) _).trans rfl
theorem RPost.since {base : Nat} {F : Nat → Prop} {w w1 w' : World} {d' : Dev} {B : Nat} {r : Value} {e : Ending} (h : RPost base F B d' r w1 e w') (k : Ch (fun _ => False) w w1) (h0 : base ≤ w.heap.size) (hF : ∀ i, F i → base ≤ i ∧ i < w.heap.size) : RPost base F B d' r w e w' := by
  obtain ⟨rfl, q', rfl, h3, h4⟩ := h
  exact RPost.last h3 (fun i hi => hi.elim Or.inl (fun e => Or.inr ⟨Nat.le_trans k.size e.1, e.2⟩)) hF ((k.mono fun _ _ f => f.elim).trans h4) h0
set_option maxHeartbeats 1600000 in
set_option maxRecDepth 100000 in
theorem did_write (base : Nat) (F : Nat → Prop) (q : Rh) (d : Dev) (x : OpD) (t : Nat) (A : Option Addr) (C : Nat) (w : World) (h : RefIs base F w q d) (hx : OpOk x) (hl : Lim d t) (hm : LimM d t) (ht : t ≤ 1000000) (hV : x.V = .slice A x.m C) (hQ : RowQ w x.V x.m x.q) (hF : ∀ b o, A = some ⟨b, o, none⟩ → 0 < x.m → ¬ F b) (hk : x.kd = 0) (hsh : x.sh = false) :
    Calls Try.prog 13 #[.pointer (some ⟨q.B, 0, none⟩), .agg (opC x)] w (RPost base F q.B (doesD d x) (.int .i64 (doesE d x)) w) := by
  obtain ⟨w1, H, hR⟩ := opR w x
  have h1 : RefIs base F w1 q d := h.gr hR.ch
  have y0 : w1.cell? ⟨H, 0, none⟩ = some (.int .i64 x.kd) := hR.at 0
  have y1 : w1.cell? ⟨H, 1, none⟩ = some (.int .i64 x.pl) := hR.at 1
  have y2 : w1.cell? ⟨H, 2, none⟩ = some (.int .u8 (x.b : Int)) := hR.at 2
  have y3 : w1.cell? ⟨H, 3, none⟩ = some (.bool x.sh) := hR.at 3
  have y13 : w1.cell? ⟨H, 13, none⟩ = some x.V := hR.at 13
  rw [hsh] at y3
  rw [hV] at y13
  have hb := hx.b
  have HR := Lib.hid hR
  have H1 := Lib.hid h1
  have HX := Lib.hid hx
  have HL := Lib.hid hl
  have HM := Lib.hid hm
  have HQ := Lib.hid hQ
  have HF := Lib.hid hF
  have HV := Lib.hid hV
  have HLE := Lib.hid h.le
  have HFL := Lib.hid (fun i (hi : F i) => h.low' hi)
  have hS : doesE d x = writeE d x.pl 256 ∧ doesD d x = writeD d x.pl 256 (fun _ => x.b) := by unfold doesE doesD; simp [hk, hsh]
  rw [hS.1, hS.2]
  rw [hk] at y0
  clear hS h h1 hx hl hm hQ hF hV hR hsh hk
  go_enter Try.func13, Try.ntmps13
  go_wp2_with ((with_reducible refine wpList_same ?_); refine wpList_boxing _ w1 rfl 37 (.tmp 1) rfl (opC x) H rfl (by exact HR.out.sz) (by exact HR.out.al) ?_)
  refine (sector_any x.b hb _).mono ?_
  rintro e w2 ⟨bs, rfl, h2, hb2, hc2⟩
  have z0 := hc2.cell y0 (fun f => f)
  have z1 := hc2.cell y1 (fun f => f)
  have z3 := hc2.cell y3 (fun f => f)
  have z13 := hc2.cell y13 (fun f => f)
  have H2 := Lib.hid (H1.out.gr hc2)
  have HC := Lib.hid (HR.out.ch.trans hc2)
  have HROW := Lib.hid (rowIs_rowV h2 (by omega) (fun _ _ => hb))
  have HBS := Lib.hid (show ¬ F bs from fun q => by have := H1.out.hi _ q; omega)
  have HH := Lib.hid ((hc2.block H (blk_lt HR.out.cx) (fun f => f)).trans HR.out.cx)
  clear h2 hb2 hc2 y0 y1 y2 y3 y13 H1
  go_wp2_with (first
    | (go_at_call 28; refine (rwrite_any base F q d x.pl bs 0 256 256 (fun _ => x.b) w2 H2.out HROW.out HBS.out (by have := HL.out.ops; omega) (by have := HL.out.W; omega) (fun a => by have := HL.out.drops a; omega)).mono ?_; rintro e w3 ⟨rfl, hp3⟩))
  have HP := Lib.hid (show RPost base F q.B (writeD d x.pl 256 (fun _ => x.b)) (.int .i64 (writeE d x.pl 256)) w (.returned (.int .i64 (writeE d x.pl 256))) w3 from (RPost.since (r := .int .i64 (writeE d x.pl 256)) ⟨rfl, hp3⟩ HC.out HLE.out HFL.out))
  clear hp3
  go_wp2
  go_ret
  exact HP.out
set_option maxHeartbeats 1600000 in
set_option maxRecDepth 100000 in
theorem did_flush (base : Nat) (F : Nat → Prop) (q : Rh) (d : Dev) (x : OpD) (t : Nat) (A : Option Addr) (C : Nat) (w : World) (h : RefIs base F w q d) (hx : OpOk x) (hl : Lim d t) (hm : LimM d t) (ht : t ≤ 1000000) (hV : x.V = .slice A x.m C) (hQ : RowQ w x.V x.m x.q) (hF : ∀ b o, A = some ⟨b, o, none⟩ → 0 < x.m → ¬ F b) (hk : x.kd = 1) (hsh : x.sh = false) :
    Calls Try.prog 13 #[.pointer (some ⟨q.B, 0, none⟩), .agg (opC x)] w (RPost base F q.B (doesD d x) (.int .i64 (doesE d x)) w) := by
  obtain ⟨w1, H, hR⟩ := opR w x
  have h1 : RefIs base F w1 q d := h.gr hR.ch
  have y0 : w1.cell? ⟨H, 0, none⟩ = some (.int .i64 x.kd) := hR.at 0
  have y1 : w1.cell? ⟨H, 1, none⟩ = some (.int .i64 x.pl) := hR.at 1
  have y2 : w1.cell? ⟨H, 2, none⟩ = some (.int .u8 (x.b : Int)) := hR.at 2
  have y3 : w1.cell? ⟨H, 3, none⟩ = some (.bool x.sh) := hR.at 3
  have y13 : w1.cell? ⟨H, 13, none⟩ = some x.V := hR.at 13
  rw [hsh] at y3
  rw [hV] at y13
  have hb := hx.b
  have HR := Lib.hid hR
  have H1 := Lib.hid h1
  have HX := Lib.hid hx
  have HL := Lib.hid hl
  have HM := Lib.hid hm
  have HQ := Lib.hid hQ
  have HF := Lib.hid hF
  have HV := Lib.hid hV
  have HLE := Lib.hid h.le
  have HFL := Lib.hid (fun i (hi : F i) => h.low' hi)
  have hS : doesE d x = flushE d ∧ doesD d x = flushD d := by unfold doesE doesD; simp [hk]
  rw [hS.1, hS.2]
  rw [hk] at y0
  clear hS h h1 hx hl hm hQ hF hV hR hsh hk
  go_enter Try.func13, Try.ntmps13
  go_wp2_with ((with_reducible refine wpList_same ?_); refine wpList_boxing _ w1 rfl 37 (.tmp 1) rfl (opC x) H rfl (by exact HR.out.sz) (by exact HR.out.al) ?_)
  refine (sector_any x.b hb _).mono ?_
  rintro e w2 ⟨bs, rfl, h2, hb2, hc2⟩
  have z0 := hc2.cell y0 (fun f => f)
  have z1 := hc2.cell y1 (fun f => f)
  have z3 := hc2.cell y3 (fun f => f)
  have z13 := hc2.cell y13 (fun f => f)
  have H2 := Lib.hid (H1.out.gr hc2)
  have HC := Lib.hid (HR.out.ch.trans hc2)
  have HROW := Lib.hid (rowIs_rowV h2 (by omega) (fun _ _ => hb))
  have HBS := Lib.hid (show ¬ F bs from fun q => by have := H1.out.hi _ q; omega)
  have HH := Lib.hid ((hc2.block H (blk_lt HR.out.cx) (fun f => f)).trans HR.out.cx)
  clear h2 hb2 hc2 y0 y1 y2 y3 y13 H1
  go_wp2_with (first
    | (go_at_call 29; refine (rflush_any base F q d w2 H2.out (by have := HL.out.W; omega)).mono ?_; rintro e w3 ⟨rfl, hp3⟩))
  have HP := Lib.hid (show RPost base F q.B (flushD d) (.int .i64 (flushE d)) w (.returned (.int .i64 (flushE d))) w3 from (RPost.since (r := .int .i64 (flushE d)) ⟨rfl, hp3⟩ HC.out HLE.out HFL.out))
  clear hp3
  go_wp2
  go_ret
  exact HP.out
set_option maxHeartbeats 1600000 in
set_option maxRecDepth 100000 in
theorem did_fault (base : Nat) (F : Nat → Prop) (q : Rh) (d : Dev) (x : OpD) (t : Nat) (A : Option Addr) (C : Nat) (w : World) (h : RefIs base F w q d) (hx : OpOk x) (hl : Lim d t) (hm : LimM d t) (ht : t ≤ 1000000) (hV : x.V = .slice A x.m C) (hQ : RowQ w x.V x.m x.q) (hF : ∀ b o, A = some ⟨b, o, none⟩ → 0 < x.m → ¬ F b) (hk : x.kd = 2) (hsh : x.sh = false) :
    Calls Try.prog 13 #[.pointer (some ⟨q.B, 0, none⟩), .agg (opC x)] w (RPost base F q.B (doesD d x) (.int .i64 (doesE d x)) w) := by
  obtain ⟨w1, H, hR⟩ := opR w x
  have h1 : RefIs base F w1 q d := h.gr hR.ch
  have y0 : w1.cell? ⟨H, 0, none⟩ = some (.int .i64 x.kd) := hR.at 0
  have y1 : w1.cell? ⟨H, 1, none⟩ = some (.int .i64 x.pl) := hR.at 1
  have y2 : w1.cell? ⟨H, 2, none⟩ = some (.int .u8 (x.b : Int)) := hR.at 2
  have y3 : w1.cell? ⟨H, 3, none⟩ = some (.bool x.sh) := hR.at 3
  have y13 : w1.cell? ⟨H, 13, none⟩ = some x.V := hR.at 13
  rw [hsh] at y3
  rw [hV] at y13
  have hb := hx.b
  have HR := Lib.hid hR
  have H1 := Lib.hid h1
  have HX := Lib.hid hx
  have HL := Lib.hid hl
  have HM := Lib.hid hm
  have HQ := Lib.hid hQ
  have HF := Lib.hid hF
  have HV := Lib.hid hV
  have HLE := Lib.hid h.le
  have HFL := Lib.hid (fun i (hi : F i) => h.low' hi)
  have hS : doesE d x = faultE d x.f ∧ doesD d x = faultD d x.f := by unfold doesE doesD; simp [hk]
  rw [hS.1, hS.2]
  rw [hk] at y0
  clear hS h h1 hx hl hm hQ hF hV hR hsh hk
  go_enter Try.func13, Try.ntmps13
  go_wp2_with ((with_reducible refine wpList_same ?_); refine wpList_boxing _ w1 rfl 37 (.tmp 1) rfl (opC x) H rfl (by exact HR.out.sz) (by exact HR.out.al) ?_)
  refine (sector_any x.b hb _).mono ?_
  rintro e w2 ⟨bs, rfl, h2, hb2, hc2⟩
  have z0 := hc2.cell y0 (fun f => f)
  have z1 := hc2.cell y1 (fun f => f)
  have z3 := hc2.cell y3 (fun f => f)
  have z13 := hc2.cell y13 (fun f => f)
  have H2 := Lib.hid (H1.out.gr hc2)
  have HC := Lib.hid (HR.out.ch.trans hc2)
  have HROW := Lib.hid (rowIs_rowV h2 (by omega) (fun _ _ => hb))
  have HBS := Lib.hid (show ¬ F bs from fun q => by have := H1.out.hi _ q; omega)
  have HH := Lib.hid ((hc2.block H (blk_lt HR.out.cx) (fun f => f)).trans HR.out.cx)
  clear h2 hb2 hc2 y0 y1 y2 y3 y13 H1
  go_wp2_with (first
    | ((with_reducible refine wpList_isOp (.load 34 (.tmp 29)) rfl ?_); refine wpList_loading _ rfl 34 (.tmp 29) rfl (.agg (faC x.f)) ⟨H, 4, none⟩ rfl (by exact load_fa4 HH.out) ?_)
    | (go_at_call 30; refine (rfault_any base F q d x.f t w2 H2.out HX.out.fok HL.out HM.out ht).mono ?_; rintro e w3 ⟨rfl, hp3⟩))
  have HP := Lib.hid (show RPost base F q.B (faultD d x.f) (.int .i64 (faultE d x.f)) w (.returned (.int .i64 (faultE d x.f))) w3 from (RPost.since (r := .int .i64 (faultE d x.f)) ⟨rfl, hp3⟩ HC.out HLE.out HFL.out))
  clear hp3
  go_wp2
  go_ret
  exact HP.out
set_option maxHeartbeats 1600000 in
set_option maxRecDepth 100000 in
theorem did_arm (base : Nat) (F : Nat → Prop) (q : Rh) (d : Dev) (x : OpD) (t : Nat) (A : Option Addr) (C : Nat) (w : World) (h : RefIs base F w q d) (hx : OpOk x) (hl : Lim d t) (hm : LimM d t) (ht : t ≤ 1000000) (hV : x.V = .slice A x.m C) (hQ : RowQ w x.V x.m x.q) (hF : ∀ b o, A = some ⟨b, o, none⟩ → 0 < x.m → ¬ F b) (hk : x.kd = 3) (hsh : x.sh = false) :
    Calls Try.prog 13 #[.pointer (some ⟨q.B, 0, none⟩), .agg (opC x)] w (RPost base F q.B (doesD d x) (.int .i64 (doesE d x)) w) := by
  obtain ⟨w1, H, hR⟩ := opR w x
  have h1 : RefIs base F w1 q d := h.gr hR.ch
  have y0 : w1.cell? ⟨H, 0, none⟩ = some (.int .i64 x.kd) := hR.at 0
  have y1 : w1.cell? ⟨H, 1, none⟩ = some (.int .i64 x.pl) := hR.at 1
  have y2 : w1.cell? ⟨H, 2, none⟩ = some (.int .u8 (x.b : Int)) := hR.at 2
  have y3 : w1.cell? ⟨H, 3, none⟩ = some (.bool x.sh) := hR.at 3
  have y13 : w1.cell? ⟨H, 13, none⟩ = some x.V := hR.at 13
  rw [hsh] at y3
  rw [hV] at y13
  have hb := hx.b
  have HR := Lib.hid hR
  have H1 := Lib.hid h1
  have HX := Lib.hid hx
  have HL := Lib.hid hl
  have HM := Lib.hid hm
  have HQ := Lib.hid hQ
  have HF := Lib.hid hF
  have HV := Lib.hid hV
  have HLE := Lib.hid h.le
  have HFL := Lib.hid (fun i (hi : F i) => h.low' hi)
  have hS : doesE d x = 0 ∧ doesD d x = armD d x.pl := by unfold doesE doesD; simp [hk]
  rw [hS.1, hS.2]
  rw [hk] at y0
  clear hS h h1 hx hl hm hQ hF hV hR hsh hk
  go_enter Try.func13, Try.ntmps13
  go_wp2_with ((with_reducible refine wpList_same ?_); refine wpList_boxing _ w1 rfl 37 (.tmp 1) rfl (opC x) H rfl (by exact HR.out.sz) (by exact HR.out.al) ?_)
  refine (sector_any x.b hb _).mono ?_
  rintro e w2 ⟨bs, rfl, h2, hb2, hc2⟩
  have z0 := hc2.cell y0 (fun f => f)
  have z1 := hc2.cell y1 (fun f => f)
  have z3 := hc2.cell y3 (fun f => f)
  have z13 := hc2.cell y13 (fun f => f)
  have H2 := Lib.hid (H1.out.gr hc2)
  have HC := Lib.hid (HR.out.ch.trans hc2)
  have HROW := Lib.hid (rowIs_rowV h2 (by omega) (fun _ _ => hb))
  have HBS := Lib.hid (show ¬ F bs from fun q => by have := H1.out.hi _ q; omega)
  have HH := Lib.hid ((hc2.block H (blk_lt HR.out.cx) (fun f => f)).trans HR.out.cx)
  clear h2 hb2 hc2 y0 y1 y2 y3 y13 H1
  have f5 := H2.out.frB 5
  have f7 := H2.out.frB 7
  have e5 : w2.cell? ⟨q.B, 5, none⟩ = some (.bool d.armed) := H2.out.cellB 5
  have e7 : w2.cell? ⟨q.B, 7, none⟩ = some (.int .i64 q.lf) := H2.out.cellB 7
  have hBH : ¬ q.B = H := fun e => by
    have e1 := H2.out.blk
    rw [e] at e1
    exact cells_ne e1 HH.out (by decide) rfl
  have z1b : (w2.setCell ⟨q.B, 5, none⟩ (.bool (decide (0 ≤ x.pl)))).cell? ⟨H, 1, none⟩ = some (.int .i64 x.pl) := by rw [World.cell?_setCell_other _ _ _ _ (fun e => hBH (congrArg Addr.block e))]; exact z1
  have kc : Ch F w2 ((w2.setCell ⟨q.B, 5, none⟩ (.bool (decide (0 ≤ x.pl)))).setCell ⟨q.B, 7, none⟩ (.int .i64 x.pl)) := ((Ch.refl F w2).setCell (p := ⟨q.B, 5, none⟩) (Or.inl H2.out.fB) _).setCell (p := ⟨q.B, 7, none⟩) (Or.inl H2.out.fB) _
  have HP := Lib.hid (RPost.mk (r := .int .i64 0) (H2.out.arm x.pl HX.out.pl) ((HC.out.mono fun _ _ f => f.elim).trans kc) HLE.out)
  clear kc
  go_wp2
  go_ret
  exact HP.out
set_option maxHeartbeats 1600000 in
set_option maxRecDepth 100000 in
theorem did_crash (base : Nat) (F : Nat → Prop) (q : Rh) (d : Dev) (x : OpD) (t : Nat) (A : Option Addr) (C : Nat) (w : World) (h : RefIs base F w q d) (hx : OpOk x) (hl : Lim d t) (hm : LimM d t) (ht : t ≤ 1000000) (hV : x.V = .slice A x.m C) (hQ : RowQ w x.V x.m x.q) (hF : ∀ b o, A = some ⟨b, o, none⟩ → 0 < x.m → ¬ F b) (hk : x.kd = 4) (hsh : x.sh = false) :
    Calls Try.prog 13 #[.pointer (some ⟨q.B, 0, none⟩), .agg (opC x)] w (RPost base F q.B (doesD d x) (.int .i64 (doesE d x)) w) := by
  obtain ⟨w1, H, hR⟩ := opR w x
  have h1 : RefIs base F w1 q d := h.gr hR.ch
  have y0 : w1.cell? ⟨H, 0, none⟩ = some (.int .i64 x.kd) := hR.at 0
  have y1 : w1.cell? ⟨H, 1, none⟩ = some (.int .i64 x.pl) := hR.at 1
  have y2 : w1.cell? ⟨H, 2, none⟩ = some (.int .u8 (x.b : Int)) := hR.at 2
  have y3 : w1.cell? ⟨H, 3, none⟩ = some (.bool x.sh) := hR.at 3
  have y13 : w1.cell? ⟨H, 13, none⟩ = some x.V := hR.at 13
  rw [hsh] at y3
  rw [hV] at y13
  have hb := hx.b
  have HR := Lib.hid hR
  have H1 := Lib.hid h1
  have HX := Lib.hid hx
  have HL := Lib.hid hl
  have HM := Lib.hid hm
  have HQ := Lib.hid hQ
  have HF := Lib.hid hF
  have HV := Lib.hid hV
  have HLE := Lib.hid h.le
  have HFL := Lib.hid (fun i (hi : F i) => h.low' hi)
  have hS : doesE d x = 0 ∧ doesD d x = crashD d x.m x.q := by unfold doesE doesD; simp [hk]
  rw [hS.1, hS.2]
  rw [hk] at y0
  clear hS h h1 hx hl hm hQ hF hV hR hsh hk
  go_enter Try.func13, Try.ntmps13
  go_wp2_with ((with_reducible refine wpList_same ?_); refine wpList_boxing _ w1 rfl 37 (.tmp 1) rfl (opC x) H rfl (by exact HR.out.sz) (by exact HR.out.al) ?_)
  refine (sector_any x.b hb _).mono ?_
  rintro e w2 ⟨bs, rfl, h2, hb2, hc2⟩
  have z0 := hc2.cell y0 (fun f => f)
  have z1 := hc2.cell y1 (fun f => f)
  have z3 := hc2.cell y3 (fun f => f)
  have z13 := hc2.cell y13 (fun f => f)
  have H2 := Lib.hid (H1.out.gr hc2)
  have HC := Lib.hid (HR.out.ch.trans hc2)
  have HROW := Lib.hid (rowIs_rowV h2 (by omega) (fun _ _ => hb))
  have HBS := Lib.hid (show ¬ F bs from fun q => by have := H1.out.hi _ q; omega)
  have HH := Lib.hid ((hc2.block H (blk_lt HR.out.cx) (fun f => f)).trans HR.out.cx)
  clear h2 hb2 hc2 y0 y1 y2 y3 y13 H1
  go_wp2_with (first
    | (go_at_call 31; refine (rcrash_any base F q d A x.m C x.q w2 H2.out (by have := HL.out.W; omega) (by rw [← HV.out]; exact HQ.out.gr HC.out) HF.out).mono ?_; rintro e w3 ⟨rfl, hp3⟩))
  have HP := Lib.hid (show RPost base F q.B (crashD d x.m x.q) (.int .i64 (0)) w (.returned (.int .i64 (0))) w3 from (RPost.since (r := .int .i64 (0)) ⟨rfl, hp3⟩ HC.out HLE.out HFL.out))
  clear hp3
  go_wp2
  go_ret
  exact HP.out
set_option maxHeartbeats 1600000 in
set_option maxRecDepth 100000 in
theorem did_rest (base : Nat) (F : Nat → Prop) (q : Rh) (d : Dev) (x : OpD) (t : Nat) (A : Option Addr) (C : Nat) (w : World) (h : RefIs base F w q d) (hx : OpOk x) (hl : Lim d t) (hm : LimM d t) (ht : t ≤ 1000000) (hV : x.V = .slice A x.m C) (hQ : RowQ w x.V x.m x.q) (hF : ∀ b o, A = some ⟨b, o, none⟩ → 0 < x.m → ¬ F b) (hk : ¬ x.kd = 0 ∧ ¬ x.kd = 1 ∧ ¬ x.kd = 2 ∧ ¬ x.kd = 3 ∧ ¬ x.kd = 4) (hsh : x.sh = false) :
    Calls Try.prog 13 #[.pointer (some ⟨q.B, 0, none⟩), .agg (opC x)] w (RPost base F q.B (doesD d x) (.int .i64 (doesE d x)) w) := by
  obtain ⟨w1, H, hR⟩ := opR w x
  have h1 : RefIs base F w1 q d := h.gr hR.ch
  have y0 : w1.cell? ⟨H, 0, none⟩ = some (.int .i64 x.kd) := hR.at 0
  have y1 : w1.cell? ⟨H, 1, none⟩ = some (.int .i64 x.pl) := hR.at 1
  have y2 : w1.cell? ⟨H, 2, none⟩ = some (.int .u8 (x.b : Int)) := hR.at 2
  have y3 : w1.cell? ⟨H, 3, none⟩ = some (.bool x.sh) := hR.at 3
  have y13 : w1.cell? ⟨H, 13, none⟩ = some x.V := hR.at 13
  rw [hsh] at y3
  rw [hV] at y13
  have hb := hx.b
  have HR := Lib.hid hR
  have H1 := Lib.hid h1
  have HX := Lib.hid hx
  have HL := Lib.hid hl
  have HM := Lib.hid hm
  have HQ := Lib.hid hQ
  have HF := Lib.hid hF
  have HV := Lib.hid hV
  have HLE := Lib.hid h.le
  have HFL := Lib.hid (fun i (hi : F i) => h.low' hi)
  have hS : doesE d x = 0 ∧ doesD d x = d := by unfold doesE doesD; simp [hk]
  rw [hS.1, hS.2]
  have t0 : (x.kd == 0) = false := by simpa using hk.1
  have t1 : (x.kd == 1) = false := by simpa using hk.2.1
  have t2 : (x.kd == 2) = false := by simpa using hk.2.2.1
  have t3 : (x.kd == 3) = false := by simpa using hk.2.2.2.1
  have t4 : (x.kd == 4) = false := by simpa using hk.2.2.2.2
  clear hS h h1 hx hl hm hQ hF hV hR hsh hk
  go_enter Try.func13, Try.ntmps13
  go_wp2_with ((with_reducible refine wpList_same ?_); refine wpList_boxing _ w1 rfl 37 (.tmp 1) rfl (opC x) H rfl (by exact HR.out.sz) (by exact HR.out.al) ?_)
  refine (sector_any x.b hb _).mono ?_
  rintro e w2 ⟨bs, rfl, h2, hb2, hc2⟩
  have z0 := hc2.cell y0 (fun f => f)
  have z1 := hc2.cell y1 (fun f => f)
  have z3 := hc2.cell y3 (fun f => f)
  have z13 := hc2.cell y13 (fun f => f)
  have H2 := Lib.hid (H1.out.gr hc2)
  have HC := Lib.hid (HR.out.ch.trans hc2)
  have HROW := Lib.hid (rowIs_rowV h2 (by omega) (fun _ _ => hb))
  have HBS := Lib.hid (show ¬ F bs from fun q => by have := H1.out.hi _ q; omega)
  have HH := Lib.hid ((hc2.block H (blk_lt HR.out.cx) (fun f => f)).trans HR.out.cx)
  clear h2 hb2 hc2 y0 y1 y2 y3 y13 H1
  have HP := Lib.hid (RPost.mk (r := .int .i64 0) H2.out (HC.out.mono fun _ _ f => f.elim) HLE.out)
  go_wp2
  go_ret
  exact HP.out
set_option maxHeartbeats 1600000 in
set_option maxRecDepth 100000 in
theorem did_writeS (base : Nat) (F : Nat → Prop) (q : Rh) (d : Dev) (x : OpD) (t : Nat) (A : Option Addr) (C : Nat) (w : World) (h : RefIs base F w q d) (hx : OpOk x) (hl : Lim d t) (hm : LimM d t) (ht : t ≤ 1000000) (hV : x.V = .slice A x.m C) (hQ : RowQ w x.V x.m x.q) (hF : ∀ b o, A = some ⟨b, o, none⟩ → 0 < x.m → ¬ F b) (hk : x.kd = 0) (hsh : x.sh = true) :
    Calls Try.prog 13 #[.pointer (some ⟨q.B, 0, none⟩), .agg (opC x)] w (RPost base F q.B (doesD d x) (.int .i64 (doesE d x)) w) := by
  obtain ⟨w1, H, hR⟩ := opR w x
  have h1 : RefIs base F w1 q d := h.gr hR.ch
  have y0 : w1.cell? ⟨H, 0, none⟩ = some (.int .i64 x.kd) := hR.at 0
  have y1 : w1.cell? ⟨H, 1, none⟩ = some (.int .i64 x.pl) := hR.at 1
  have y2 : w1.cell? ⟨H, 2, none⟩ = some (.int .u8 (x.b : Int)) := hR.at 2
  have y3 : w1.cell? ⟨H, 3, none⟩ = some (.bool x.sh) := hR.at 3
  have y13 : w1.cell? ⟨H, 13, none⟩ = some x.V := hR.at 13
  rw [hsh] at y3
  rw [hV] at y13
  have hb := hx.b
  have HR := Lib.hid hR
  have H1 := Lib.hid h1
  have HX := Lib.hid hx
  have HL := Lib.hid hl
  have HM := Lib.hid hm
  have HQ := Lib.hid hQ
  have HF := Lib.hid hF
  have HV := Lib.hid hV
  have HLE := Lib.hid h.le
  have HFL := Lib.hid (fun i (hi : F i) => h.low' hi)
  have hS : doesE d x = writeE d x.pl 255 ∧ doesD d x = writeD d x.pl 255 (fun _ => x.b) := by unfold doesE doesD; simp [hk, hsh]
  rw [hS.1, hS.2]
  rw [hk] at y0
  clear hS h h1 hx hl hm hQ hF hV hR hsh hk
  go_enter Try.func13, Try.ntmps13
  go_wp2_with ((with_reducible refine wpList_same ?_); refine wpList_boxing _ w1 rfl 37 (.tmp 1) rfl (opC x) H rfl (by exact HR.out.sz) (by exact HR.out.al) ?_)
  refine (sector_any x.b hb _).mono ?_
  rintro e w2 ⟨bs, rfl, h2, hb2, hc2⟩
  have z0 := hc2.cell y0 (fun f => f)
  have z1 := hc2.cell y1 (fun f => f)
  have z3 := hc2.cell y3 (fun f => f)
  have z13 := hc2.cell y13 (fun f => f)
  have H2 := Lib.hid (H1.out.gr hc2)
  have HC := Lib.hid (HR.out.ch.trans hc2)
  have HROW := Lib.hid (rowIs_rowV h2 (by omega) (fun _ _ => hb))
  have HBS := Lib.hid (show ¬ F bs from fun q => by have := H1.out.hi _ q; omega)
  have HH := Lib.hid ((hc2.block H (blk_lt HR.out.cx) (fun f => f)).trans HR.out.cx)
  clear h2 hb2 hc2 y0 y1 y2 y3 y13 H1
  go_wp2_with (first
    | (go_at_call 28; refine (rwrite_any base F q d x.pl bs 1 255 255 (fun _ => x.b) w2 H2.out (by have := row_tail HROW.out (k := 1) (by omega); simpa using this) HBS.out (by have := HL.out.ops; omega) (by have := HL.out.W; omega) (fun a => by have := HL.out.drops a; omega)).mono ?_; rintro e w3 ⟨rfl, hp3⟩))
  have HP := Lib.hid (show RPost base F q.B (writeD d x.pl 255 (fun _ => x.b)) (.int .i64 (writeE d x.pl 255)) w (.returned (.int .i64 (writeE d x.pl 255))) w3 from (RPost.since (r := .int .i64 (writeE d x.pl 255)) ⟨rfl, hp3⟩ HC.out HLE.out HFL.out))
  clear hp3
  go_wp2
  go_ret
  exact HP.out
set_option maxHeartbeats 1600000 in
set_option maxRecDepth 100000 in
theorem did_flushS (base : Nat) (F : Nat → Prop) (q : Rh) (d : Dev) (x : OpD) (t : Nat) (A : Option Addr) (C : Nat) (w : World) (h : RefIs base F w q d) (hx : OpOk x) (hl : Lim d t) (hm : LimM d t) (ht : t ≤ 1000000) (hV : x.V = .slice A x.m C) (hQ : RowQ w x.V x.m x.q) (hF : ∀ b o, A = some ⟨b, o, none⟩ → 0 < x.m → ¬ F b) (hk : x.kd = 1) (hsh : x.sh = true) :
    Calls Try.prog 13 #[.pointer (some ⟨q.B, 0, none⟩), .agg (opC x)] w (RPost base F q.B (doesD d x) (.int .i64 (doesE d x)) w) := by
  obtain ⟨w1, H, hR⟩ := opR w x
  have h1 : RefIs base F w1 q d := h.gr hR.ch
  have y0 : w1.cell? ⟨H, 0, none⟩ = some (.int .i64 x.kd) := hR.at 0
  have y1 : w1.cell? ⟨H, 1, none⟩ = some (.int .i64 x.pl) := hR.at 1
  have y2 : w1.cell? ⟨H, 2, none⟩ = some (.int .u8 (x.b : Int)) := hR.at 2
  have y3 : w1.cell? ⟨H, 3, none⟩ = some (.bool x.sh) := hR.at 3
  have y13 : w1.cell? ⟨H, 13, none⟩ = some x.V := hR.at 13
  rw [hsh] at y3
  rw [hV] at y13
  have hb := hx.b
  have HR := Lib.hid hR
  have H1 := Lib.hid h1
  have HX := Lib.hid hx
  have HL := Lib.hid hl
  have HM := Lib.hid hm
  have HQ := Lib.hid hQ
  have HF := Lib.hid hF
  have HV := Lib.hid hV
  have HLE := Lib.hid h.le
  have HFL := Lib.hid (fun i (hi : F i) => h.low' hi)
  have hS : doesE d x = flushE d ∧ doesD d x = flushD d := by unfold doesE doesD; simp [hk]
  rw [hS.1, hS.2]
  rw [hk] at y0
  clear hS h h1 hx hl hm hQ hF hV hR hsh hk
  go_enter Try.func13, Try.ntmps13
  go_wp2_with ((with_reducible refine wpList_same ?_); refine wpList_boxing _ w1 rfl 37 (.tmp 1) rfl (opC x) H rfl (by exact HR.out.sz) (by exact HR.out.al) ?_)
  refine (sector_any x.b hb _).mono ?_
  rintro e w2 ⟨bs, rfl, h2, hb2, hc2⟩
  have z0 := hc2.cell y0 (fun f => f)
  have z1 := hc2.cell y1 (fun f => f)
  have z3 := hc2.cell y3 (fun f => f)
  have z13 := hc2.cell y13 (fun f => f)
  have H2 := Lib.hid (H1.out.gr hc2)
  have HC := Lib.hid (HR.out.ch.trans hc2)
  have HROW := Lib.hid (rowIs_rowV h2 (by omega) (fun _ _ => hb))
  have HBS := Lib.hid (show ¬ F bs from fun q => by have := H1.out.hi _ q; omega)
  have HH := Lib.hid ((hc2.block H (blk_lt HR.out.cx) (fun f => f)).trans HR.out.cx)
  clear h2 hb2 hc2 y0 y1 y2 y3 y13 H1
  go_wp2_with (first
    | (go_at_call 29; refine (rflush_any base F q d w2 H2.out (by have := HL.out.W; omega)).mono ?_; rintro e w3 ⟨rfl, hp3⟩))
  have HP := Lib.hid (show RPost base F q.B (flushD d) (.int .i64 (flushE d)) w (.returned (.int .i64 (flushE d))) w3 from (RPost.since (r := .int .i64 (flushE d)) ⟨rfl, hp3⟩ HC.out HLE.out HFL.out))
  clear hp3
  go_wp2
  go_ret
  exact HP.out
set_option maxHeartbeats 1600000 in
set_option maxRecDepth 100000 in
theorem did_faultS (base : Nat) (F : Nat → Prop) (q : Rh) (d : Dev) (x : OpD) (t : Nat) (A : Option Addr) (C : Nat) (w : World) (h : RefIs base F w q d) (hx : OpOk x) (hl : Lim d t) (hm : LimM d t) (ht : t ≤ 1000000) (hV : x.V = .slice A x.m C) (hQ : RowQ w x.V x.m x.q) (hF : ∀ b o, A = some ⟨b, o, none⟩ → 0 < x.m → ¬ F b) (hk : x.kd = 2) (hsh : x.sh = true) :
    Calls Try.prog 13 #[.pointer (some ⟨q.B, 0, none⟩), .agg (opC x)] w (RPost base F q.B (doesD d x) (.int .i64 (doesE d x)) w) := by
  obtain ⟨w1, H, hR⟩ := opR w x
  have h1 : RefIs base F w1 q d := h.gr hR.ch
  have y0 : w1.cell? ⟨H, 0, none⟩ = some (.int .i64 x.kd) := hR.at 0
  have y1 : w1.cell? ⟨H, 1, none⟩ = some (.int .i64 x.pl) := hR.at 1
  have y2 : w1.cell? ⟨H, 2, none⟩ = some (.int .u8 (x.b : Int)) := hR.at 2
  have y3 : w1.cell? ⟨H, 3, none⟩ = some (.bool x.sh) := hR.at 3
  have y13 : w1.cell? ⟨H, 13, none⟩ = some x.V := hR.at 13
  rw [hsh] at y3
  rw [hV] at y13
  have hb := hx.b
  have HR := Lib.hid hR
  have H1 := Lib.hid h1
  have HX := Lib.hid hx
  have HL := Lib.hid hl
  have HM := Lib.hid hm
  have HQ := Lib.hid hQ
  have HF := Lib.hid hF
  have HV := Lib.hid hV
  have HLE := Lib.hid h.le
  have HFL := Lib.hid (fun i (hi : F i) => h.low' hi)
  have hS : doesE d x = faultE d x.f ∧ doesD d x = faultD d x.f := by unfold doesE doesD; simp [hk]
  rw [hS.1, hS.2]
  rw [hk] at y0
  clear hS h h1 hx hl hm hQ hF hV hR hsh hk
  go_enter Try.func13, Try.ntmps13
  go_wp2_with ((with_reducible refine wpList_same ?_); refine wpList_boxing _ w1 rfl 37 (.tmp 1) rfl (opC x) H rfl (by exact HR.out.sz) (by exact HR.out.al) ?_)
  refine (sector_any x.b hb _).mono ?_
  rintro e w2 ⟨bs, rfl, h2, hb2, hc2⟩
  have z0 := hc2.cell y0 (fun f => f)
  have z1 := hc2.cell y1 (fun f => f)
  have z3 := hc2.cell y3 (fun f => f)
  have z13 := hc2.cell y13 (fun f => f)
  have H2 := Lib.hid (H1.out.gr hc2)
  have HC := Lib.hid (HR.out.ch.trans hc2)
  have HROW := Lib.hid (rowIs_rowV h2 (by omega) (fun _ _ => hb))
  have HBS := Lib.hid (show ¬ F bs from fun q => by have := H1.out.hi _ q; omega)
  have HH := Lib.hid ((hc2.block H (blk_lt HR.out.cx) (fun f => f)).trans HR.out.cx)
  clear h2 hb2 hc2 y0 y1 y2 y3 y13 H1
  go_wp2_with (first
    | ((with_reducible refine wpList_isOp (.load 34 (.tmp 29)) rfl ?_); refine wpList_loading _ rfl 34 (.tmp 29) rfl (.agg (faC x.f)) ⟨H, 4, none⟩ rfl (by exact load_fa4 HH.out) ?_)
    | (go_at_call 30; refine (rfault_any base F q d x.f t w2 H2.out HX.out.fok HL.out HM.out ht).mono ?_; rintro e w3 ⟨rfl, hp3⟩))
  have HP := Lib.hid (show RPost base F q.B (faultD d x.f) (.int .i64 (faultE d x.f)) w (.returned (.int .i64 (faultE d x.f))) w3 from (RPost.since (r := .int .i64 (faultE d x.f)) ⟨rfl, hp3⟩ HC.out HLE.out HFL.out))
  clear hp3
  go_wp2
  go_ret
  exact HP.out
set_option maxHeartbeats 1600000 in
set_option maxRecDepth 100000 in
theorem did_armS (base : Nat) (F : Nat → Prop) (q : Rh) (d : Dev) (x : OpD) (t : Nat) (A : Option Addr) (C : Nat) (w : World) (h : RefIs base F w q d) (hx : OpOk x) (hl : Lim d t) (hm : LimM d t) (ht : t ≤ 1000000) (hV : x.V = .slice A x.m C) (hQ : RowQ w x.V x.m x.q) (hF : ∀ b o, A = some ⟨b, o, none⟩ → 0 < x.m → ¬ F b) (hk : x.kd = 3) (hsh : x.sh = true) :
    Calls Try.prog 13 #[.pointer (some ⟨q.B, 0, none⟩), .agg (opC x)] w (RPost base F q.B (doesD d x) (.int .i64 (doesE d x)) w) := by
  obtain ⟨w1, H, hR⟩ := opR w x
  have h1 : RefIs base F w1 q d := h.gr hR.ch
  have y0 : w1.cell? ⟨H, 0, none⟩ = some (.int .i64 x.kd) := hR.at 0
  have y1 : w1.cell? ⟨H, 1, none⟩ = some (.int .i64 x.pl) := hR.at 1
  have y2 : w1.cell? ⟨H, 2, none⟩ = some (.int .u8 (x.b : Int)) := hR.at 2
  have y3 : w1.cell? ⟨H, 3, none⟩ = some (.bool x.sh) := hR.at 3
  have y13 : w1.cell? ⟨H, 13, none⟩ = some x.V := hR.at 13
  rw [hsh] at y3
  rw [hV] at y13
  have hb := hx.b
  have HR := Lib.hid hR
  have H1 := Lib.hid h1
  have HX := Lib.hid hx
  have HL := Lib.hid hl
  have HM := Lib.hid hm
  have HQ := Lib.hid hQ
  have HF := Lib.hid hF
  have HV := Lib.hid hV
  have HLE := Lib.hid h.le
  have HFL := Lib.hid (fun i (hi : F i) => h.low' hi)
  have hS : doesE d x = 0 ∧ doesD d x = armD d x.pl := by unfold doesE doesD; simp [hk]
  rw [hS.1, hS.2]
  rw [hk] at y0
  clear hS h h1 hx hl hm hQ hF hV hR hsh hk
  go_enter Try.func13, Try.ntmps13
  go_wp2_with ((with_reducible refine wpList_same ?_); refine wpList_boxing _ w1 rfl 37 (.tmp 1) rfl (opC x) H rfl (by exact HR.out.sz) (by exact HR.out.al) ?_)
  refine (sector_any x.b hb _).mono ?_
  rintro e w2 ⟨bs, rfl, h2, hb2, hc2⟩
  have z0 := hc2.cell y0 (fun f => f)
  have z1 := hc2.cell y1 (fun f => f)
  have z3 := hc2.cell y3 (fun f => f)
  have z13 := hc2.cell y13 (fun f => f)
  have H2 := Lib.hid (H1.out.gr hc2)
  have HC := Lib.hid (HR.out.ch.trans hc2)
  have HROW := Lib.hid (rowIs_rowV h2 (by omega) (fun _ _ => hb))
  have HBS := Lib.hid (show ¬ F bs from fun q => by have := H1.out.hi _ q; omega)
  have HH := Lib.hid ((hc2.block H (blk_lt HR.out.cx) (fun f => f)).trans HR.out.cx)
  clear h2 hb2 hc2 y0 y1 y2 y3 y13 H1
  have f5 := H2.out.frB 5
  have f7 := H2.out.frB 7
  have e5 : w2.cell? ⟨q.B, 5, none⟩ = some (.bool d.armed) := H2.out.cellB 5
  have e7 : w2.cell? ⟨q.B, 7, none⟩ = some (.int .i64 q.lf) := H2.out.cellB 7
  have hBH : ¬ q.B = H := fun e => by
    have e1 := H2.out.blk
    rw [e] at e1
    exact cells_ne e1 HH.out (by decide) rfl
  have z1b : (w2.setCell ⟨q.B, 5, none⟩ (.bool (decide (0 ≤ x.pl)))).cell? ⟨H, 1, none⟩ = some (.int .i64 x.pl) := by rw [World.cell?_setCell_other _ _ _ _ (fun e => hBH (congrArg Addr.block e))]; exact z1
  have kc : Ch F w2 ((w2.setCell ⟨q.B, 5, none⟩ (.bool (decide (0 ≤ x.pl)))).setCell ⟨q.B, 7, none⟩ (.int .i64 x.pl)) := ((Ch.refl F w2).setCell (p := ⟨q.B, 5, none⟩) (Or.inl H2.out.fB) _).setCell (p := ⟨q.B, 7, none⟩) (Or.inl H2.out.fB) _
  have HP := Lib.hid (RPost.mk (r := .int .i64 0) (H2.out.arm x.pl HX.out.pl) ((HC.out.mono fun _ _ f => f.elim).trans kc) HLE.out)
  clear kc
  go_wp2
  go_ret
  exact HP.out
set_option maxHeartbeats 1600000 in
set_option maxRecDepth 100000 in
theorem did_crashS (base : Nat) (F : Nat → Prop) (q : Rh) (d : Dev) (x : OpD) (t : Nat) (A : Option Addr) (C : Nat) (w : World) (h : RefIs base F w q d) (hx : OpOk x) (hl : Lim d t) (hm : LimM d t) (ht : t ≤ 1000000) (hV : x.V = .slice A x.m C) (hQ : RowQ w x.V x.m x.q) (hF : ∀ b o, A = some ⟨b, o, none⟩ → 0 < x.m → ¬ F b) (hk : x.kd = 4) (hsh : x.sh = true) :
    Calls Try.prog 13 #[.pointer (some ⟨q.B, 0, none⟩), .agg (opC x)] w (RPost base F q.B (doesD d x) (.int .i64 (doesE d x)) w) := by
  obtain ⟨w1, H, hR⟩ := opR w x
  have h1 : RefIs base F w1 q d := h.gr hR.ch
  have y0 : w1.cell? ⟨H, 0, none⟩ = some (.int .i64 x.kd) := hR.at 0
  have y1 : w1.cell? ⟨H, 1, none⟩ = some (.int .i64 x.pl) := hR.at 1
  have y2 : w1.cell? ⟨H, 2, none⟩ = some (.int .u8 (x.b : Int)) := hR.at 2
  have y3 : w1.cell? ⟨H, 3, none⟩ = some (.bool x.sh) := hR.at 3
  have y13 : w1.cell? ⟨H, 13, none⟩ = some x.V := hR.at 13
  rw [hsh] at y3
  rw [hV] at y13
  have hb := hx.b
  have HR := Lib.hid hR
  have H1 := Lib.hid h1
  have HX := Lib.hid hx
  have HL := Lib.hid hl
  have HM := Lib.hid hm
  have HQ := Lib.hid hQ
  have HF := Lib.hid hF
  have HV := Lib.hid hV
  have HLE := Lib.hid h.le
  have HFL := Lib.hid (fun i (hi : F i) => h.low' hi)
  have hS : doesE d x = 0 ∧ doesD d x = crashD d x.m x.q := by unfold doesE doesD; simp [hk]
  rw [hS.1, hS.2]
  rw [hk] at y0
  clear hS h h1 hx hl hm hQ hF hV hR hsh hk
  go_enter Try.func13, Try.ntmps13
  go_wp2_with ((with_reducible refine wpList_same ?_); refine wpList_boxing _ w1 rfl 37 (.tmp 1) rfl (opC x) H rfl (by exact HR.out.sz) (by exact HR.out.al) ?_)
  refine (sector_any x.b hb _).mono ?_
  rintro e w2 ⟨bs, rfl, h2, hb2, hc2⟩
  have z0 := hc2.cell y0 (fun f => f)
  have z1 := hc2.cell y1 (fun f => f)
  have z3 := hc2.cell y3 (fun f => f)
  have z13 := hc2.cell y13 (fun f => f)
  have H2 := Lib.hid (H1.out.gr hc2)
  have HC := Lib.hid (HR.out.ch.trans hc2)
  have HROW := Lib.hid (rowIs_rowV h2 (by omega) (fun _ _ => hb))
  have HBS := Lib.hid (show ¬ F bs from fun q => by have := H1.out.hi _ q; omega)
  have HH := Lib.hid ((hc2.block H (blk_lt HR.out.cx) (fun f => f)).trans HR.out.cx)
  clear h2 hb2 hc2 y0 y1 y2 y3 y13 H1
  go_wp2_with (first
    | (go_at_call 31; refine (rcrash_any base F q d A x.m C x.q w2 H2.out (by have := HL.out.W; omega) (by rw [← HV.out]; exact HQ.out.gr HC.out) HF.out).mono ?_; rintro e w3 ⟨rfl, hp3⟩))
  have HP := Lib.hid (show RPost base F q.B (crashD d x.m x.q) (.int .i64 (0)) w (.returned (.int .i64 (0))) w3 from (RPost.since (r := .int .i64 (0)) ⟨rfl, hp3⟩ HC.out HLE.out HFL.out))
  clear hp3
  go_wp2
  go_ret
  exact HP.out
set_option maxHeartbeats 1600000 in
set_option maxRecDepth 100000 in
theorem did_restS (base : Nat) (F : Nat → Prop) (q : Rh) (d : Dev) (x : OpD) (t : Nat) (A : Option Addr) (C : Nat) (w : World) (h : RefIs base F w q d) (hx : OpOk x) (hl : Lim d t) (hm : LimM d t) (ht : t ≤ 1000000) (hV : x.V = .slice A x.m C) (hQ : RowQ w x.V x.m x.q) (hF : ∀ b o, A = some ⟨b, o, none⟩ → 0 < x.m → ¬ F b) (hk : ¬ x.kd = 0 ∧ ¬ x.kd = 1 ∧ ¬ x.kd = 2 ∧ ¬ x.kd = 3 ∧ ¬ x.kd = 4) (hsh : x.sh = true) :
    Calls Try.prog 13 #[.pointer (some ⟨q.B, 0, none⟩), .agg (opC x)] w (RPost base F q.B (doesD d x) (.int .i64 (doesE d x)) w) := by
  obtain ⟨w1, H, hR⟩ := opR w x
  have h1 : RefIs base F w1 q d := h.gr hR.ch
  have y0 : w1.cell? ⟨H, 0, none⟩ = some (.int .i64 x.kd) := hR.at 0
  have y1 : w1.cell? ⟨H, 1, none⟩ = some (.int .i64 x.pl) := hR.at 1
  have y2 : w1.cell? ⟨H, 2, none⟩ = some (.int .u8 (x.b : Int)) := hR.at 2
  have y3 : w1.cell? ⟨H, 3, none⟩ = some (.bool x.sh) := hR.at 3
  have y13 : w1.cell? ⟨H, 13, none⟩ = some x.V := hR.at 13
  rw [hsh] at y3
  rw [hV] at y13
  have hb := hx.b
  have HR := Lib.hid hR
  have H1 := Lib.hid h1
  have HX := Lib.hid hx
  have HL := Lib.hid hl
  have HM := Lib.hid hm
  have HQ := Lib.hid hQ
  have HF := Lib.hid hF
  have HV := Lib.hid hV
  have HLE := Lib.hid h.le
  have HFL := Lib.hid (fun i (hi : F i) => h.low' hi)
  have hS : doesE d x = 0 ∧ doesD d x = d := by unfold doesE doesD; simp [hk]
  rw [hS.1, hS.2]
  have t0 : (x.kd == 0) = false := by simpa using hk.1
  have t1 : (x.kd == 1) = false := by simpa using hk.2.1
  have t2 : (x.kd == 2) = false := by simpa using hk.2.2.1
  have t3 : (x.kd == 3) = false := by simpa using hk.2.2.2.1
  have t4 : (x.kd == 4) = false := by simpa using hk.2.2.2.2
  clear hS h h1 hx hl hm hQ hF hV hR hsh hk
  go_enter Try.func13, Try.ntmps13
  go_wp2_with ((with_reducible refine wpList_same ?_); refine wpList_boxing _ w1 rfl 37 (.tmp 1) rfl (opC x) H rfl (by exact HR.out.sz) (by exact HR.out.al) ?_)
  refine (sector_any x.b hb _).mono ?_
  rintro e w2 ⟨bs, rfl, h2, hb2, hc2⟩
  have z0 := hc2.cell y0 (fun f => f)
  have z1 := hc2.cell y1 (fun f => f)
  have z3 := hc2.cell y3 (fun f => f)
  have z13 := hc2.cell y13 (fun f => f)
  have H2 := Lib.hid (H1.out.gr hc2)
  have HC := Lib.hid (HR.out.ch.trans hc2)
  have HROW := Lib.hid (rowIs_rowV h2 (by omega) (fun _ _ => hb))
  have HBS := Lib.hid (show ¬ F bs from fun q => by have := H1.out.hi _ q; omega)
  have HH := Lib.hid ((hc2.block H (blk_lt HR.out.cx) (fun f => f)).trans HR.out.cx)
  clear h2 hb2 hc2 y0 y1 y2 y3 y13 H1
  have HP := Lib.hid (RPost.mk (r := .int .i64 0) H2.out (HC.out.mono fun _ _ f => f.elim) HLE.out)
  go_wp2
  go_ret
  exact HP.out
theorem did_any (base : Nat) (F : Nat → Prop) (q : Rh) (d : Dev) (x : OpD) (t : Nat) (w : World) (h : RefIs base F w q d) (hx : OpOk x) (hl : Lim d t) (hm : LimM d t) (ht : t ≤ 1000000) (hQ : RowQ w x.V x.m x.q) (hF : ∀ b o C, x.V = .slice (some ⟨b, o, none⟩) x.m C → 0 < x.m → ¬ F b) :
    Calls Try.prog 13 #[.pointer (some ⟨q.B, 0, none⟩), .agg (opC x)] w (RPost base F q.B (doesD d x) (.int .i64 (doesE d x)) w) := by
  obtain ⟨A, C, hV, _⟩ := id hQ
  have hF' : ∀ b o, A = some ⟨b, o, none⟩ → 0 < x.m → ¬ F b := fun b o e hm => hF b o C (by rw [hV, e]) hm
  cases hs : x.sh
  · by_cases k0 : x.kd = 0
    · exact did_write base F q d x t A C w h hx hl hm ht hV hQ hF' k0 hs
    by_cases k1 : x.kd = 1
    · exact did_flush base F q d x t A C w h hx hl hm ht hV hQ hF' k1 hs
    by_cases k2 : x.kd = 2
    · exact did_fault base F q d x t A C w h hx hl hm ht hV hQ hF' k2 hs
    by_cases k3 : x.kd = 3
    · exact did_arm base F q d x t A C w h hx hl hm ht hV hQ hF' k3 hs
    by_cases k4 : x.kd = 4
    · exact did_crash base F q d x t A C w h hx hl hm ht hV hQ hF' k4 hs
    exact did_rest base F q d x t A C w h hx hl hm ht hV hQ hF' ⟨k0, k1, k2, k3, k4⟩ hs
  · by_cases k0 : x.kd = 0
    · exact did_writeS base F q d x t A C w h hx hl hm ht hV hQ hF' k0 hs
    by_cases k1 : x.kd = 1
    · exact did_flushS base F q d x t A C w h hx hl hm ht hV hQ hF' k1 hs
    by_cases k2 : x.kd = 2
    · exact did_faultS base F q d x t A C w h hx hl hm ht hV hQ hF' k2 hs
    by_cases k3 : x.kd = 3
    · exact did_armS base F q d x t A C w h hx hl hm ht hV hQ hF' k3 hs
    by_cases k4 : x.kd = 4
    · exact did_crashS base F q d x t A C w h hx hl hm ht hV hQ hF' k4 hs
    exact did_restS base F q d x t A C w h hx hl hm ht hV hQ hF' ⟨k0, k1, k2, k3, k4⟩ hs
#print axioms did_any
end Go.Proofs.Ytkbhpkpacojpcaa
