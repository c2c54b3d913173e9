/-
  (*disk.Disk).Fault whole; law06.Does, walked.
-/
import Derived.Test.YtkbhpkpacojpcaaDskK
import Derived.Test.YtkbhpkpacojpcaaDskO
import Derived.Test.YtkbhpkpacojpcaaDskW
import Derived.Test.YtkbhpkpacojpcaaOpenQ
namespace Go.Proofs.Ytkbhpkpacojpcaa
open Go.RowKit
set_option linter.unusedVariables false

def LimM (d : Dev) (t : Nat) : Prop := ∀ a, (d.miss a).length ≤ t
def faultE (d : Dev) (f : Fa) : Int := if hasB d f.pl then (if f.kind = 1 then rotE f else if f.kind = 2 then 0 else if f.kind = 3 then 0 else if f.kind = 4 then dropE f else if f.kind = 5 then missE d f else 1) else 3
def faultD (d : Dev) (f : Fa) : Dev := if hasB d f.pl then (if f.kind = 1 then rotD d f else if f.kind = 2 then blankD d f.pl.toNat else if f.kind = 3 then loseD d f.pl.toNat else if f.kind = 4 then dropD d f else if f.kind = 5 then missD d f else d) else d
theorem fault_any (base : Nat) (p : Ph) (d : Dev) (f : Fa) (t : Nat) (w : World) (h : DevIs base w p d) (hf : FaOk f) (hl : Lim d t) (hm : LimM d t) (ht : t ≤ 1000000) :
    Calls Try.prog 22 #[.pointer (some ⟨p.B, 0, none⟩), .agg (faC f)] w (DPost base p d (faultD d f) (.int .i64 (faultE d f)) w) := by
  unfold faultE faultD
  cases hb : hasB d f.pl
  · exact fault_none base p d f w h hb
  · have hp := of_decide_eq_true hb
    have hW : d.W.length ≤ 1048576 := by have := hl.W; omega
    rw [if_pos rfl, if_pos rfl]
    by_cases k1 : f.kind = 1
    · rw [if_pos k1, if_pos k1]; exact fault_rot base p d _ _ f w h hb k1 (fun w' h' => rot_any base p d f w' h' hf hW hp)
    rw [if_neg k1, if_neg k1]
    by_cases k2 : f.kind = 2
    · rw [if_pos k2, if_pos k2]; exact fault_blank base p d _ _ f w h hb k2 (fun w' h' => blank_any base p d f w' h' hW hp)
    rw [if_neg k2, if_neg k2]
    by_cases k3 : f.kind = 3
    · rw [if_pos k3, if_pos k3]; exact fault_lose base p d _ _ f w h hb k3 (fun w' h' => lose_any base p d f w' h' hW hp)
    rw [if_neg k3, if_neg k3]
    by_cases k4 : f.kind = 4
    · rw [if_pos k4, if_pos k4]; exact fault_drop base p d _ _ f w h hb k4 (fun w' h' => drop_any base p d f w' h' hf hp (fun a => by have := hl.drops a; omega))
    rw [if_neg k4, if_neg k4]
    by_cases k5 : f.kind = 5
    · rw [if_pos k5, if_pos k5]; exact fault_miss base p d _ _ f w h hb k5 (fun w' h' => miss_any base p d f w' h' hp (by have := hm f.pl.toNat; omega))
    rw [if_neg k5, if_neg k5]
    exact fault_arg base p d f w h hb (fun q => by omega)
#print axioms fault_any

/-! ### Does -/
def opC (x : OpD) : Array Value := #[.int .i64 x.kd, .int .i64 x.pl, .int .u8 (x.b : Int), .bool x.sh, .int .i64 x.f.kind, .int .i64 x.f.pl, .int .i64 x.f.off, .int .i64 x.f.n, .int .i64 x.f.to, .int .u8 (x.f.k0 : Int), .int .u8 (x.f.k1 : Int), .int .u8 (x.f.k2 : Int), .int .u8 (x.f.k3 : Int), x.V]
structure OpOk (x : OpD) : Prop where
  kd : I64 x.kd
  pl : I64 x.pl
  b : x.b < 256
  fok : FaOk x.f
def doesE (d : Dev) (x : OpD) : Int := if x.kd = 0 then writeE d x.pl (if x.sh then 255 else 256) else if x.kd = 1 then flushE d else if x.kd = 2 then faultE d x.f else 0
def doesD (d : Dev) (x : OpD) : Dev := if x.kd = 0 then writeD d x.pl (if x.sh then 255 else 256) (fun _ => x.b) else if x.kd = 1 then flushD d else if x.kd = 2 then faultD d x.f else if x.kd = 3 then armD d x.pl else if x.kd = 4 then crashD d x.m x.q else d
structure OpR (w w1 : World) (H : Nat) (x : OpD) : Prop where
  al : w.alloc (.cells (opC x) 37) = w1
  sz : w.heap.size = H
  cx : w1.heap[H]? = some (.cells (opC x) 37 (0, 0))
  ch : Ch (fun _ => False) w w1
theorem opR (w : World) (x : OpD) : ∃ w1 H, OpR w w1 H x := ⟨_, _, rfl, rfl, heap_alloc_new w _, (Ch.refl _ w).alloc _ _⟩
theorem OpR.at {w w1 : World} {H : Nat} {x : OpD} (h : OpR w w1 H x) (i : Nat) : w1.cell? ⟨H, i, none⟩ = (opC x)[i]? := blk_cell h.cx
theorem load_fa4 {w : World} {H : Nat} {x : OpD} (h : w.heap[H]? = some (.cells (opC x) 37 (0, 0))) : (loadVar 34 ⟨H, 4, none⟩).run Try.prog w = .ok (.agg (faC x.f)) w :=
  run_loadVar_mid w H 4 _ (faC x.f).toList _ (fun j v hj => by
    rw [blk_cell h]
    have hj9 : j < 9 := (List.getElem?_eq_some_iff.1 hj).1
    rw [← hj]
    match j, hj9 with
    | 0, _ => rfl
    | 1, _ => rfl
    | 2, _ => rfl
    | 3, _ => rfl
    | 4, _ => rfl
    | 5, _ => rfl
    | 6, _ => rfl
    | 7, _ => rfl
    | 8, _ => rfl) Try.underlying34 rfl (show _ = some 9 by kernel_rfl)
set_option maxHeartbeats 1600000 in
set_option maxRecDepth 100000 in
theorem does_writeS (base : Nat) (p : Ph) (d : Dev) (x : OpD) (t : Nat) (A : Option Addr) (C : Nat) (w : World) (h : DevIs base w p d) (hx : OpOk x) (hl : Lim d t) (hm : LimM d t) (ht : t ≤ 1000000) (hV : x.V = .slice A x.m C) (hQ : RowQ w x.V x.m x.q) (hF : ∀ b o, A = some ⟨b, o, none⟩ → 0 < x.m → ¬ Foot p d b) (hk : x.kd = 0) (hsh : x.sh = true) :
    Calls Try.prog 12 #[.pointer (some ⟨p.B, 0, none⟩), .agg (opC x)] w (DPost base p d (doesD d x) (.int .i64 (doesE d x)) w) := by
  obtain ⟨w1, H, hR⟩ := opR w x
  have h1 : DevIs base w1 p d := h.gr hR.ch
  have y0 : w1.cell? ⟨H, 0, none⟩ = some (.int .i64 x.kd) := hR.at 0
  have y1 : w1.cell? ⟨H, 1, none⟩ = some (.int .i64 x.pl) := hR.at 1
  have y2 : w1.cell? ⟨H, 2, none⟩ = some (.int .u8 (x.b : Int)) := hR.at 2
  have y3 : w1.cell? ⟨H, 3, none⟩ = some (.bool x.sh) := hR.at 3
  have y13 : w1.cell? ⟨H, 13, none⟩ = some x.V := hR.at 13
  rw [hsh] at y3
  rw [hV] at y13
  have hb := hx.b
  have HR := Lib.hid hR
  have H1 := Lib.hid h1
  have HX := Lib.hid hx
  have HL := Lib.hid hl
  have HM := Lib.hid hm
  have HQ := Lib.hid hQ
  have HF := Lib.hid hF
  have HV := Lib.hid hV
  have hS : doesE d x = writeE d x.pl 255 ∧ doesD d x = writeD d x.pl 255 (fun _ => x.b) := by unfold doesE doesD; simp [hk, hsh]
  rw [hS.1, hS.2]
  rw [hk] at y0
  clear hS h h1 hx hl hm hQ hF hV hR hsh hk
  go_enter Try.func12, Try.ntmps12
  go_wp2_with ((with_reducible refine wpList_same ?_); refine wpList_boxing _ w1 rfl 37 (.tmp 1) rfl (opC x) H rfl (by exact HR.out.sz) (by exact HR.out.al) ?_)
  refine (sector_any x.b hb _).mono ?_
  rintro e w2 ⟨bs, rfl, h2, hb2, hc2⟩
  have z0 := hc2.cell y0 (fun f => f)
  have z1 := hc2.cell y1 (fun f => f)
  have z3 := hc2.cell y3 (fun f => f)
  have z13 := hc2.cell y13 (fun f => f)
  have H2 := Lib.hid (H1.out.gr hc2)
  have HC := Lib.hid (HR.out.ch.trans hc2)
  have HROW := Lib.hid (rowIs_rowV h2 (by omega) (fun _ _ => hb))
  have HBS := Lib.hid (show ¬ Foot p d bs from fun q => by have := (H1.out.foot q).2; omega)
  have HH := Lib.hid ((hc2.block H (blk_lt HR.out.cx) (fun f => f)).trans HR.out.cx)
  clear h2 hb2 hc2 y0 y1 y2 y3 y13 H1
  go_wp2_with (first
    | (go_at_call 15; refine (write_any base p d x.pl bs 1 255 255 (fun _ => x.b) w2 H2.out (by have := row_tail HROW.out (k := 1) (by omega); simpa using this) HBS.out (by have := HL.out.ops; omega) (by have := HL.out.W; omega) (fun a => by have := HL.out.drops a; omega)).mono ?_; rintro e w3 ⟨rfl, hp3⟩))
  have HP := Lib.hid (show DPost base p d (writeD d x.pl 255 (fun _ => x.b)) (.int .i64 (writeE d x.pl 255)) w (.returned (.int .i64 (writeE d x.pl 255))) w3 from (DPost.since (r := .int .i64 (writeE d x.pl 255)) ⟨rfl, hp3⟩ HC.out))
  clear hp3
  go_wp2
  go_ret
  exact HP.out
set_option maxHeartbeats 1600000 in
set_option maxRecDepth 100000 in
theorem does_flushS (base : Nat) (p : Ph) (d : Dev) (x : OpD) (t : Nat) (A : Option Addr) (C : Nat) (w : World) (h : DevIs base w p d) (hx : OpOk x) (hl : Lim d t) (hm : LimM d t) (ht : t ≤ 1000000) (hV : x.V = .slice A x.m C) (hQ : RowQ w x.V x.m x.q) (hF : ∀ b o, A = some ⟨b, o, none⟩ → 0 < x.m → ¬ Foot p d b) (hk : x.kd = 1) (hsh : x.sh = true) :
    Calls Try.prog 12 #[.pointer (some ⟨p.B, 0, none⟩), .agg (opC x)] w (DPost base p d (doesD d x) (.int .i64 (doesE d x)) w) := by
  obtain ⟨w1, H, hR⟩ := opR w x
  have h1 : DevIs base w1 p d := h.gr hR.ch
  have y0 : w1.cell? ⟨H, 0, none⟩ = some (.int .i64 x.kd) := hR.at 0
  have y1 : w1.cell? ⟨H, 1, none⟩ = some (.int .i64 x.pl) := hR.at 1
  have y2 : w1.cell? ⟨H, 2, none⟩ = some (.int .u8 (x.b : Int)) := hR.at 2
  have y3 : w1.cell? ⟨H, 3, none⟩ = some (.bool x.sh) := hR.at 3
  have y13 : w1.cell? ⟨H, 13, none⟩ = some x.V := hR.at 13
  rw [hsh] at y3
  rw [hV] at y13
  have hb := hx.b
  have HR := Lib.hid hR
  have H1 := Lib.hid h1
  have HX := Lib.hid hx
  have HL := Lib.hid hl
  have HM := Lib.hid hm
  have HQ := Lib.hid hQ
  have HF := Lib.hid hF
  have HV := Lib.hid hV
  have hS : doesE d x = flushE d ∧ doesD d x = flushD d := by unfold doesE doesD; simp [hk]
  rw [hS.1, hS.2]
  rw [hk] at y0
  clear hS h h1 hx hl hm hQ hF hV hR hsh hk
  go_enter Try.func12, Try.ntmps12
  go_wp2_with ((with_reducible refine wpList_same ?_); refine wpList_boxing _ w1 rfl 37 (.tmp 1) rfl (opC x) H rfl (by exact HR.out.sz) (by exact HR.out.al) ?_)
  refine (sector_any x.b hb _).mono ?_
  rintro e w2 ⟨bs, rfl, h2, hb2, hc2⟩
  have z0 := hc2.cell y0 (fun f => f)
  have z1 := hc2.cell y1 (fun f => f)
  have z3 := hc2.cell y3 (fun f => f)
  have z13 := hc2.cell y13 (fun f => f)
  have H2 := Lib.hid (H1.out.gr hc2)
  have HC := Lib.hid (HR.out.ch.trans hc2)
  have HROW := Lib.hid (rowIs_rowV h2 (by omega) (fun _ _ => hb))
  have HBS := Lib.hid (show ¬ Foot p d bs from fun q => by have := (H1.out.foot q).2; omega)
  have HH := Lib.hid ((hc2.block H (blk_lt HR.out.cx) (fun f => f)).trans HR.out.cx)
  clear h2 hb2 hc2 y0 y1 y2 y3 y13 H1
  go_wp2_with (first
    | (go_at_call 17; refine (flush_any base p d w2 H2.out (by have := HL.out.W; omega)).mono ?_; rintro e w3 ⟨rfl, hp3⟩))
  have HP := Lib.hid (show DPost base p d (flushD d) (.int .i64 (flushE d)) w (.returned (.int .i64 (flushE d))) w3 from (DPost.since (r := .int .i64 (flushE d)) ⟨rfl, hp3⟩ HC.out))
  clear hp3
  go_wp2
  go_ret
  exact HP.out
set_option maxHeartbeats 1600000 in
set_option maxRecDepth 100000 in
theorem does_faultS (base : Nat) (p : Ph) (d : Dev) (x : OpD) (t : Nat) (A : Option Addr) (C : Nat) (w : World) (h : DevIs base w p d) (hx : OpOk x) (hl : Lim d t) (hm : LimM d t) (ht : t ≤ 1000000) (hV : x.V = .slice A x.m C) (hQ : RowQ w x.V x.m x.q) (hF : ∀ b o, A = some ⟨b, o, none⟩ → 0 < x.m → ¬ Foot p d b) (hk : x.kd = 2) (hsh : x.sh = true) :
    Calls Try.prog 12 #[.pointer (some ⟨p.B, 0, none⟩), .agg (opC x)] w (DPost base p d (doesD d x) (.int .i64 (doesE d x)) w) := by
  obtain ⟨w1, H, hR⟩ := opR w x
  have h1 : DevIs base w1 p d := h.gr hR.ch
  have y0 : w1.cell? ⟨H, 0, none⟩ = some (.int .i64 x.kd) := hR.at 0
  have y1 : w1.cell? ⟨H, 1, none⟩ = some (.int .i64 x.pl) := hR.at 1
  have y2 : w1.cell? ⟨H, 2, none⟩ = some (.int .u8 (x.b : Int)) := hR.at 2
  have y3 : w1.cell? ⟨H, 3, none⟩ = some (.bool x.sh) := hR.at 3
  have y13 : w1.cell? ⟨H, 13, none⟩ = some x.V := hR.at 13
  rw [hsh] at y3
  rw [hV] at y13
  have hb := hx.b
  have HR := Lib.hid hR
  have H1 := Lib.hid h1
  have HX := Lib.hid hx
  have HL := Lib.hid hl
  have HM := Lib.hid hm
  have HQ := Lib.hid hQ
  have HF := Lib.hid hF
  have HV := Lib.hid hV
  have hS : doesE d x = faultE d x.f ∧ doesD d x = faultD d x.f := by unfold doesE doesD; simp [hk]
  rw [hS.1, hS.2]
  rw [hk] at y0
  clear hS h h1 hx hl hm hQ hF hV hR hsh hk
  go_enter Try.func12, Try.ntmps12
  go_wp2_with ((with_reducible refine wpList_same ?_); refine wpList_boxing _ w1 rfl 37 (.tmp 1) rfl (opC x) H rfl (by exact HR.out.sz) (by exact HR.out.al) ?_)
  refine (sector_any x.b hb _).mono ?_
  rintro e w2 ⟨bs, rfl, h2, hb2, hc2⟩
  have z0 := hc2.cell y0 (fun f => f)
  have z1 := hc2.cell y1 (fun f => f)
  have z3 := hc2.cell y3 (fun f => f)
  have z13 := hc2.cell y13 (fun f => f)
  have H2 := Lib.hid (H1.out.gr hc2)
  have HC := Lib.hid (HR.out.ch.trans hc2)
  have HROW := Lib.hid (rowIs_rowV h2 (by omega) (fun _ _ => hb))
  have HBS := Lib.hid (show ¬ Foot p d bs from fun q => by have := (H1.out.foot q).2; omega)
  have HH := Lib.hid ((hc2.block H (blk_lt HR.out.cx) (fun f => f)).trans HR.out.cx)
  clear h2 hb2 hc2 y0 y1 y2 y3 y13 H1
  go_wp2_with (first
    | ((with_reducible refine wpList_same ?_); refine wpList_loading _ rfl 34 (.tmp 29) rfl (.agg (faC x.f)) ⟨H, 4, none⟩ rfl (by exact load_fa4 HH.out) ?_)
    | (go_at_call 22; refine (fault_any base p d x.f t w2 H2.out HX.out.fok HL.out HM.out ht).mono ?_; rintro e w3 ⟨rfl, hp3⟩))
  have HP := Lib.hid (show DPost base p d (faultD d x.f) (.int .i64 (faultE d x.f)) w (.returned (.int .i64 (faultE d x.f))) w3 from (DPost.since (r := .int .i64 (faultE d x.f)) ⟨rfl, hp3⟩ HC.out))
  clear hp3
  go_wp2
  go_ret
  exact HP.out
set_option maxHeartbeats 1600000 in
set_option maxRecDepth 100000 in
theorem does_armS (base : Nat) (p : Ph) (d : Dev) (x : OpD) (t : Nat) (A : Option Addr) (C : Nat) (w : World) (h : DevIs base w p d) (hx : OpOk x) (hl : Lim d t) (hm : LimM d t) (ht : t ≤ 1000000) (hV : x.V = .slice A x.m C) (hQ : RowQ w x.V x.m x.q) (hF : ∀ b o, A = some ⟨b, o, none⟩ → 0 < x.m → ¬ Foot p d b) (hk : x.kd = 3) (hsh : x.sh = true) :
    Calls Try.prog 12 #[.pointer (some ⟨p.B, 0, none⟩), .agg (opC x)] w (DPost base p d (doesD d x) (.int .i64 (doesE d x)) w) := by
  obtain ⟨w1, H, hR⟩ := opR w x
  have h1 : DevIs base w1 p d := h.gr hR.ch
  have y0 : w1.cell? ⟨H, 0, none⟩ = some (.int .i64 x.kd) := hR.at 0
  have y1 : w1.cell? ⟨H, 1, none⟩ = some (.int .i64 x.pl) := hR.at 1
  have y2 : w1.cell? ⟨H, 2, none⟩ = some (.int .u8 (x.b : Int)) := hR.at 2
  have y3 : w1.cell? ⟨H, 3, none⟩ = some (.bool x.sh) := hR.at 3
  have y13 : w1.cell? ⟨H, 13, none⟩ = some x.V := hR.at 13
  rw [hsh] at y3
  rw [hV] at y13
  have hb := hx.b
  have HR := Lib.hid hR
  have H1 := Lib.hid h1
  have HX := Lib.hid hx
  have HL := Lib.hid hl
  have HM := Lib.hid hm
  have HQ := Lib.hid hQ
  have HF := Lib.hid hF
  have HV := Lib.hid hV
  have hS : doesE d x = 0 ∧ doesD d x = armD d x.pl := by unfold doesE doesD; simp [hk]
  rw [hS.1, hS.2]
  rw [hk] at y0
  clear hS h h1 hx hl hm hQ hF hV hR hsh hk
  go_enter Try.func12, Try.ntmps12
  go_wp2_with ((with_reducible refine wpList_same ?_); refine wpList_boxing _ w1 rfl 37 (.tmp 1) rfl (opC x) H rfl (by exact HR.out.sz) (by exact HR.out.al) ?_)
  refine (sector_any x.b hb _).mono ?_
  rintro e w2 ⟨bs, rfl, h2, hb2, hc2⟩
  have z0 := hc2.cell y0 (fun f => f)
  have z1 := hc2.cell y1 (fun f => f)
  have z3 := hc2.cell y3 (fun f => f)
  have z13 := hc2.cell y13 (fun f => f)
  have H2 := Lib.hid (H1.out.gr hc2)
  have HC := Lib.hid (HR.out.ch.trans hc2)
  have HROW := Lib.hid (rowIs_rowV h2 (by omega) (fun _ _ => hb))
  have HBS := Lib.hid (show ¬ Foot p d bs from fun q => by have := (H1.out.foot q).2; omega)
  have HH := Lib.hid ((hc2.block H (blk_lt HR.out.cx) (fun f => f)).trans HR.out.cx)
  clear h2 hb2 hc2 y0 y1 y2 y3 y13 H1
  go_wp2_with (first
    | (go_at_call 24; refine (arm_any base p d x.pl w2 H2.out HX.out.pl).mono ?_; rintro e w3 ⟨rfl, hp3⟩))
  have HP := Lib.hid (show DPost base p d (armD d x.pl) (.int .i64 0) w (.returned (.int .i64 0)) w3 from (DPost.since (r := .int .i64 0) ⟨rfl, hp3⟩ HC.out))
  clear hp3
  go_wp2
  go_ret
  exact HP.out
set_option maxHeartbeats 1600000 in
set_option maxRecDepth 100000 in
theorem does_crashS (base : Nat) (p : Ph) (d : Dev) (x : OpD) (t : Nat) (A : Option Addr) (C : Nat) (w : World) (h : DevIs base w p d) (hx : OpOk x) (hl : Lim d t) (hm : LimM d t) (ht : t ≤ 1000000) (hV : x.V = .slice A x.m C) (hQ : RowQ w x.V x.m x.q) (hF : ∀ b o, A = some ⟨b, o, none⟩ → 0 < x.m → ¬ Foot p d b) (hk : x.kd = 4) (hsh : x.sh = true) :
    Calls Try.prog 12 #[.pointer (some ⟨p.B, 0, none⟩), .agg (opC x)] w (DPost base p d (doesD d x) (.int .i64 (doesE d x)) w) := by
  obtain ⟨w1, H, hR⟩ := opR w x
  have h1 : DevIs base w1 p d := h.gr hR.ch
  have y0 : w1.cell? ⟨H, 0, none⟩ = some (.int .i64 x.kd) := hR.at 0
  have y1 : w1.cell? ⟨H, 1, none⟩ = some (.int .i64 x.pl) := hR.at 1
  have y2 : w1.cell? ⟨H, 2, none⟩ = some (.int .u8 (x.b : Int)) := hR.at 2
  have y3 : w1.cell? ⟨H, 3, none⟩ = some (.bool x.sh) := hR.at 3
  have y13 : w1.cell? ⟨H, 13, none⟩ = some x.V := hR.at 13
  rw [hsh] at y3
  rw [hV] at y13
  have hb := hx.b
  have HR := Lib.hid hR
  have H1 := Lib.hid h1
  have HX := Lib.hid hx
  have HL := Lib.hid hl
  have HM := Lib.hid hm
  have HQ := Lib.hid hQ
  have HF := Lib.hid hF
  have HV := Lib.hid hV
  have hS : doesE d x = 0 ∧ doesD d x = crashD d x.m x.q := by unfold doesE doesD; simp [hk]
  rw [hS.1, hS.2]
  rw [hk] at y0
  clear hS h h1 hx hl hm hQ hF hV hR hsh hk
  go_enter Try.func12, Try.ntmps12
  go_wp2_with ((with_reducible refine wpList_same ?_); refine wpList_boxing _ w1 rfl 37 (.tmp 1) rfl (opC x) H rfl (by exact HR.out.sz) (by exact HR.out.al) ?_)
  refine (sector_any x.b hb _).mono ?_
  rintro e w2 ⟨bs, rfl, h2, hb2, hc2⟩
  have z0 := hc2.cell y0 (fun f => f)
  have z1 := hc2.cell y1 (fun f => f)
  have z3 := hc2.cell y3 (fun f => f)
  have z13 := hc2.cell y13 (fun f => f)
  have H2 := Lib.hid (H1.out.gr hc2)
  have HC := Lib.hid (HR.out.ch.trans hc2)
  have HROW := Lib.hid (rowIs_rowV h2 (by omega) (fun _ _ => hb))
  have HBS := Lib.hid (show ¬ Foot p d bs from fun q => by have := (H1.out.foot q).2; omega)
  have HH := Lib.hid ((hc2.block H (blk_lt HR.out.cx) (fun f => f)).trans HR.out.cx)
  clear h2 hb2 hc2 y0 y1 y2 y3 y13 H1
  go_wp2_with (first
    | (go_at_call 18; refine (crash_any base p d A x.m C x.q w2 H2.out (by have := HL.out.W; omega) (by rw [← HV.out]; exact HQ.out.gr HC.out) HF.out).mono ?_; rintro e w3 ⟨rfl, hp3⟩))
  have HP := Lib.hid (show DPost base p d (crashD d x.m x.q) (.int .i64 0) w (.returned (.int .i64 0)) w3 from (DPost.since (r := .int .i64 0) ⟨rfl, hp3⟩ HC.out))
  clear hp3
  go_wp2
  go_ret
  exact HP.out
set_option maxHeartbeats 1600000 in
set_option maxRecDepth 100000 in
theorem does_restS (base : Nat) (p : Ph) (d : Dev) (x : OpD) (t : Nat) (A : Option Addr) (C : Nat) (w : World) (h : DevIs base w p d) (hx : OpOk x) (hl : Lim d t) (hm : LimM d t) (ht : t ≤ 1000000) (hV : x.V = .slice A x.m C) (hQ : RowQ w x.V x.m x.q) (hF : ∀ b o, A = some ⟨b, o, none⟩ → 0 < x.m → ¬ Foot p d b) (hk : ¬ x.kd = 0 ∧ ¬ x.kd = 1 ∧ ¬ x.kd = 2 ∧ ¬ x.kd = 3 ∧ ¬ x.kd = 4) (hsh : x.sh = true) :
    Calls Try.prog 12 #[.pointer (some ⟨p.B, 0, none⟩), .agg (opC x)] w (DPost base p d (doesD d x) (.int .i64 (doesE d x)) w) := by
  obtain ⟨w1, H, hR⟩ := opR w x
  have h1 : DevIs base w1 p d := h.gr hR.ch
  have y0 : w1.cell? ⟨H, 0, none⟩ = some (.int .i64 x.kd) := hR.at 0
  have y1 : w1.cell? ⟨H, 1, none⟩ = some (.int .i64 x.pl) := hR.at 1
  have y2 : w1.cell? ⟨H, 2, none⟩ = some (.int .u8 (x.b : Int)) := hR.at 2
  have y3 : w1.cell? ⟨H, 3, none⟩ = some (.bool x.sh) := hR.at 3
  have y13 : w1.cell? ⟨H, 13, none⟩ = some x.V := hR.at 13
  rw [hsh] at y3
  rw [hV] at y13
  have hb := hx.b
  have HR := Lib.hid hR
  have H1 := Lib.hid h1
  have HX := Lib.hid hx
  have HL := Lib.hid hl
  have HM := Lib.hid hm
  have HQ := Lib.hid hQ
  have HF := Lib.hid hF
  have HV := Lib.hid hV
  have hS : doesE d x = 0 ∧ doesD d x = d := by unfold doesE doesD; simp [hk]
  rw [hS.1, hS.2]
  have t0 : (x.kd == 0) = false := by simpa using hk.1
  have t1 : (x.kd == 1) = false := by simpa using hk.2.1
  have t2 : (x.kd == 2) = false := by simpa using hk.2.2.1
  have t3 : (x.kd == 3) = false := by simpa using hk.2.2.2.1
  have t4 : (x.kd == 4) = false := by simpa using hk.2.2.2.2
  clear hS h h1 hx hl hm hQ hF hV hR hsh hk
  go_enter Try.func12, Try.ntmps12
  go_wp2_with ((with_reducible refine wpList_same ?_); refine wpList_boxing _ w1 rfl 37 (.tmp 1) rfl (opC x) H rfl (by exact HR.out.sz) (by exact HR.out.al) ?_)
  refine (sector_any x.b hb _).mono ?_
  rintro e w2 ⟨bs, rfl, h2, hb2, hc2⟩
  have z0 := hc2.cell y0 (fun f => f)
  have z1 := hc2.cell y1 (fun f => f)
  have z3 := hc2.cell y3 (fun f => f)
  have z13 := hc2.cell y13 (fun f => f)
  have H2 := Lib.hid (H1.out.gr hc2)
  have HC := Lib.hid (HR.out.ch.trans hc2)
  have HROW := Lib.hid (rowIs_rowV h2 (by omega) (fun _ _ => hb))
  have HBS := Lib.hid (show ¬ Foot p d bs from fun q => by have := (H1.out.foot q).2; omega)
  have HH := Lib.hid ((hc2.block H (blk_lt HR.out.cx) (fun f => f)).trans HR.out.cx)
  clear h2 hb2 hc2 y0 y1 y2 y3 y13 H1
  have HP := Lib.hid (DPost.turned (base := base) (r := .int .i64 0) H2.out rfl (HC.out.mono fun _ _ f => f.elim) (w := w))
  go_wp2
  go_ret
  exact HP.out
set_option maxHeartbeats 1600000 in
set_option maxRecDepth 100000 in
theorem does_write (base : Nat) (p : Ph) (d : Dev) (x : OpD) (t : Nat) (A : Option Addr) (C : Nat) (w : World) (h : DevIs base w p d) (hx : OpOk x) (hl : Lim d t) (hm : LimM d t) (ht : t ≤ 1000000) (hV : x.V = .slice A x.m C) (hQ : RowQ w x.V x.m x.q) (hF : ∀ b o, A = some ⟨b, o, none⟩ → 0 < x.m → ¬ Foot p d b) (hk : x.kd = 0) (hsh : x.sh = false) :
    Calls Try.prog 12 #[.pointer (some ⟨p.B, 0, none⟩), .agg (opC x)] w (DPost base p d (doesD d x) (.int .i64 (doesE d x)) w) := by
  obtain ⟨w1, H, hR⟩ := opR w x
  have h1 : DevIs base w1 p d := h.gr hR.ch
  have y0 : w1.cell? ⟨H, 0, none⟩ = some (.int .i64 x.kd) := hR.at 0
  have y1 : w1.cell? ⟨H, 1, none⟩ = some (.int .i64 x.pl) := hR.at 1
  have y2 : w1.cell? ⟨H, 2, none⟩ = some (.int .u8 (x.b : Int)) := hR.at 2
  have y3 : w1.cell? ⟨H, 3, none⟩ = some (.bool x.sh) := hR.at 3
  have y13 : w1.cell? ⟨H, 13, none⟩ = some x.V := hR.at 13
  rw [hsh] at y3
  rw [hV] at y13
  have hb := hx.b
  have HR := Lib.hid hR
  have H1 := Lib.hid h1
  have HX := Lib.hid hx
  have HL := Lib.hid hl
  have HM := Lib.hid hm
  have HQ := Lib.hid hQ
  have HF := Lib.hid hF
  have HV := Lib.hid hV
  have hS : doesE d x = writeE d x.pl 256 ∧ doesD d x = writeD d x.pl 256 (fun _ => x.b) := by unfold doesE doesD; simp [hk, hsh]
  rw [hS.1, hS.2]
  rw [hk] at y0
  clear hS h h1 hx hl hm hQ hF hV hR hsh hk
  go_enter Try.func12, Try.ntmps12
  go_wp2_with ((with_reducible refine wpList_same ?_); refine wpList_boxing _ w1 rfl 37 (.tmp 1) rfl (opC x) H rfl (by exact HR.out.sz) (by exact HR.out.al) ?_)
  refine (sector_any x.b hb _).mono ?_
  rintro e w2 ⟨bs, rfl, h2, hb2, hc2⟩
  have z0 := hc2.cell y0 (fun f => f)
  have z1 := hc2.cell y1 (fun f => f)
  have z3 := hc2.cell y3 (fun f => f)
  have z13 := hc2.cell y13 (fun f => f)
  have H2 := Lib.hid (H1.out.gr hc2)
  have HC := Lib.hid (HR.out.ch.trans hc2)
  have HROW := Lib.hid (rowIs_rowV h2 (by omega) (fun _ _ => hb))
  have HBS := Lib.hid (show ¬ Foot p d bs from fun q => by have := (H1.out.foot q).2; omega)
  have HH := Lib.hid ((hc2.block H (blk_lt HR.out.cx) (fun f => f)).trans HR.out.cx)
  clear h2 hb2 hc2 y0 y1 y2 y3 y13 H1
  go_wp2_with (first
    | (go_at_call 15; refine (write_any base p d x.pl bs 0 256 256 (fun _ => x.b) w2 H2.out HROW.out HBS.out (by have := HL.out.ops; omega) (by have := HL.out.W; omega) (fun a => by have := HL.out.drops a; omega)).mono ?_; rintro e w3 ⟨rfl, hp3⟩))
  have HP := Lib.hid (show DPost base p d (writeD d x.pl 256 (fun _ => x.b)) (.int .i64 (writeE d x.pl 256)) w (.returned (.int .i64 (writeE d x.pl 256))) w3 from (DPost.since (r := .int .i64 (writeE d x.pl 256)) ⟨rfl, hp3⟩ HC.out))
  clear hp3
  go_wp2
  go_ret
  exact HP.out
set_option maxHeartbeats 1600000 in
set_option maxRecDepth 100000 in
theorem does_flush (base : Nat) (p : Ph) (d : Dev) (x : OpD) (t : Nat) (A : Option Addr) (C : Nat) (w : World) (h : DevIs base w p d) (hx : OpOk x) (hl : Lim d t) (hm : LimM d t) (ht : t ≤ 1000000) (hV : x.V = .slice A x.m C) (hQ : RowQ w x.V x.m x.q) (hF : ∀ b o, A = some ⟨b, o, none⟩ → 0 < x.m → ¬ Foot p d b) (hk : x.kd = 1) (hsh : x.sh = false) :
    Calls Try.prog 12 #[.pointer (some ⟨p.B, 0, none⟩), .agg (opC x)] w (DPost base p d (doesD d x) (.int .i64 (doesE d x)) w) := by
  obtain ⟨w1, H, hR⟩ := opR w x
  have h1 : DevIs base w1 p d := h.gr hR.ch
  have y0 : w1.cell? ⟨H, 0, none⟩ = some (.int .i64 x.kd) := hR.at 0
  have y1 : w1.cell? ⟨H, 1, none⟩ = some (.int .i64 x.pl) := hR.at 1
  have y2 : w1.cell? ⟨H, 2, none⟩ = some (.int .u8 (x.b : Int)) := hR.at 2
  have y3 : w1.cell? ⟨H, 3, none⟩ = some (.bool x.sh) := hR.at 3
  have y13 : w1.cell? ⟨H, 13, none⟩ = some x.V := hR.at 13
  rw [hsh] at y3
  rw [hV] at y13
  have hb := hx.b
  have HR := Lib.hid hR
  have H1 := Lib.hid h1
  have HX := Lib.hid hx
  have HL := Lib.hid hl
  have HM := Lib.hid hm
  have HQ := Lib.hid hQ
  have HF := Lib.hid hF
  have HV := Lib.hid hV
  have hS : doesE d x = flushE d ∧ doesD d x = flushD d := by unfold doesE doesD; simp [hk]
  rw [hS.1, hS.2]
  rw [hk] at y0
  clear hS h h1 hx hl hm hQ hF hV hR hsh hk
  go_enter Try.func12, Try.ntmps12
  go_wp2_with ((with_reducible refine wpList_same ?_); refine wpList_boxing _ w1 rfl 37 (.tmp 1) rfl (opC x) H rfl (by exact HR.out.sz) (by exact HR.out.al) ?_)
  refine (sector_any x.b hb _).mono ?_
  rintro e w2 ⟨bs, rfl, h2, hb2, hc2⟩
  have z0 := hc2.cell y0 (fun f => f)
  have z1 := hc2.cell y1 (fun f => f)
  have z3 := hc2.cell y3 (fun f => f)
  have z13 := hc2.cell y13 (fun f => f)
  have H2 := Lib.hid (H1.out.gr hc2)
  have HC := Lib.hid (HR.out.ch.trans hc2)
  have HROW := Lib.hid (rowIs_rowV h2 (by omega) (fun _ _ => hb))
  have HBS := Lib.hid (show ¬ Foot p d bs from fun q => by have := (H1.out.foot q).2; omega)
  have HH := Lib.hid ((hc2.block H (blk_lt HR.out.cx) (fun f => f)).trans HR.out.cx)
  clear h2 hb2 hc2 y0 y1 y2 y3 y13 H1
  go_wp2_with (first
    | (go_at_call 17; refine (flush_any base p d w2 H2.out (by have := HL.out.W; omega)).mono ?_; rintro e w3 ⟨rfl, hp3⟩))
  have HP := Lib.hid (show DPost base p d (flushD d) (.int .i64 (flushE d)) w (.returned (.int .i64 (flushE d))) w3 from (DPost.since (r := .int .i64 (flushE d)) ⟨rfl, hp3⟩ HC.out))
  clear hp3
  go_wp2
  go_ret
  exact HP.out
set_option maxHeartbeats 1600000 in
set_option maxRecDepth 100000 in
theorem does_fault (base : Nat) (p : Ph) (d : Dev) (x : OpD) (t : Nat) (A : Option Addr) (C : Nat) (w : World) (h : DevIs base w p d) (hx : OpOk x) (hl : Lim d t) (hm : LimM d t) (ht : t ≤ 1000000) (hV : x.V = .slice A x.m C) (hQ : RowQ w x.V x.m x.q) (hF : ∀ b o, A = some ⟨b, o, none⟩ → 0 < x.m → ¬ Foot p d b) (hk : x.kd = 2) (hsh : x.sh = false) :
    Calls Try.prog 12 #[.pointer (some ⟨p.B, 0, none⟩), .agg (opC x)] w (DPost base p d (doesD d x) (.int .i64 (doesE d x)) w) := by
  obtain ⟨w1, H, hR⟩ := opR w x
  have h1 : DevIs base w1 p d := h.gr hR.ch
  have y0 : w1.cell? ⟨H, 0, none⟩ = some (.int .i64 x.kd) := hR.at 0
  have y1 : w1.cell? ⟨H, 1, none⟩ = some (.int .i64 x.pl) := hR.at 1
  have y2 : w1.cell? ⟨H, 2, none⟩ = some (.int .u8 (x.b : Int)) := hR.at 2
  have y3 : w1.cell? ⟨H, 3, none⟩ = some (.bool x.sh) := hR.at 3
  have y13 : w1.cell? ⟨H, 13, none⟩ = some x.V := hR.at 13
  rw [hsh] at y3
  rw [hV] at y13
  have hb := hx.b
  have HR := Lib.hid hR
  have H1 := Lib.hid h1
  have HX := Lib.hid hx
  have HL := Lib.hid hl
  have HM := Lib.hid hm
  have HQ := Lib.hid hQ
  have HF := Lib.hid hF
  have HV := Lib.hid hV
  have hS : doesE d x = faultE d x.f ∧ doesD d x = faultD d x.f := by unfold doesE doesD; simp [hk]
  rw [hS.1, hS.2]
  rw [hk] at y0
  clear hS h h1 hx hl hm hQ hF hV hR hsh hk
  go_enter Try.func12, Try.ntmps12
  go_wp2_with ((with_reducible refine wpList_same ?_); refine wpList_boxing _ w1 rfl 37 (.tmp 1) rfl (opC x) H rfl (by exact HR.out.sz) (by exact HR.out.al) ?_)
  refine (sector_any x.b hb _).mono ?_
  rintro e w2 ⟨bs, rfl, h2, hb2, hc2⟩
  have z0 := hc2.cell y0 (fun f => f)
  have z1 := hc2.cell y1 (fun f => f)
  have z3 := hc2.cell y3 (fun f => f)
  have z13 := hc2.cell y13 (fun f => f)
  have H2 := Lib.hid (H1.out.gr hc2)
  have HC := Lib.hid (HR.out.ch.trans hc2)
  have HROW := Lib.hid (rowIs_rowV h2 (by omega) (fun _ _ => hb))
  have HBS := Lib.hid (show ¬ Foot p d bs from fun q => by have := (H1.out.foot q).2; omega)
  have HH := Lib.hid ((hc2.block H (blk_lt HR.out.cx) (fun f => f)).trans HR.out.cx)
  clear h2 hb2 hc2 y0 y1 y2 y3 y13 H1
  go_wp2_with (first
    | ((with_reducible refine wpList_same ?_); refine wpList_loading _ rfl 34 (.tmp 29) rfl (.agg (faC x.f)) ⟨H, 4, none⟩ rfl (by exact load_fa4 HH.out) ?_)
    | (go_at_call 22; refine (fault_any base p d x.f t w2 H2.out HX.out.fok HL.out HM.out ht).mono ?_; rintro e w3 ⟨rfl, hp3⟩))
  have HP := Lib.hid (show DPost base p d (faultD d x.f) (.int .i64 (faultE d x.f)) w (.returned (.int .i64 (faultE d x.f))) w3 from (DPost.since (r := .int .i64 (faultE d x.f)) ⟨rfl, hp3⟩ HC.out))
  clear hp3
  go_wp2
  go_ret
  exact HP.out
set_option maxHeartbeats 1600000 in
set_option maxRecDepth 100000 in
theorem does_arm (base : Nat) (p : Ph) (d : Dev) (x : OpD) (t : Nat) (A : Option Addr) (C : Nat) (w : World) (h : DevIs base w p d) (hx : OpOk x) (hl : Lim d t) (hm : LimM d t) (ht : t ≤ 1000000) (hV : x.V = .slice A x.m C) (hQ : RowQ w x.V x.m x.q) (hF : ∀ b o, A = some ⟨b, o, none⟩ → 0 < x.m → ¬ Foot p d b) (hk : x.kd = 3) (hsh : x.sh = false) :
    Calls Try.prog 12 #[.pointer (some ⟨p.B, 0, none⟩), .agg (opC x)] w (DPost base p d (doesD d x) (.int .i64 (doesE d x)) w) := by
  obtain ⟨w1, H, hR⟩ := opR w x
  have h1 : DevIs base w1 p d := h.gr hR.ch
  have y0 : w1.cell? ⟨H, 0, none⟩ = some (.int .i64 x.kd) := hR.at 0
  have y1 : w1.cell? ⟨H, 1, none⟩ = some (.int .i64 x.pl) := hR.at 1
  have y2 : w1.cell? ⟨H, 2, none⟩ = some (.int .u8 (x.b : Int)) := hR.at 2
  have y3 : w1.cell? ⟨H, 3, none⟩ = some (.bool x.sh) := hR.at 3
  have y13 : w1.cell? ⟨H, 13, none⟩ = some x.V := hR.at 13
  rw [hsh] at y3
  rw [hV] at y13
  have hb := hx.b
  have HR := Lib.hid hR
  have H1 := Lib.hid h1
  have HX := Lib.hid hx
  have HL := Lib.hid hl
  have HM := Lib.hid hm
  have HQ := Lib.hid hQ
  have HF := Lib.hid hF
  have HV := Lib.hid hV
  have hS : doesE d x = 0 ∧ doesD d x = armD d x.pl := by unfold doesE doesD; simp [hk]
  rw [hS.1, hS.2]
  rw [hk] at y0
  clear hS h h1 hx hl hm hQ hF hV hR hsh hk
  go_enter Try.func12, Try.ntmps12
  go_wp2_with ((with_reducible refine wpList_same ?_); refine wpList_boxing _ w1 rfl 37 (.tmp 1) rfl (opC x) H rfl (by exact HR.out.sz) (by exact HR.out.al) ?_)
  refine (sector_any x.b hb _).mono ?_
  rintro e w2 ⟨bs, rfl, h2, hb2, hc2⟩
  have z0 := hc2.cell y0 (fun f => f)
  have z1 := hc2.cell y1 (fun f => f)
  have z3 := hc2.cell y3 (fun f => f)
  have z13 := hc2.cell y13 (fun f => f)
  have H2 := Lib.hid (H1.out.gr hc2)
  have HC := Lib.hid (HR.out.ch.trans hc2)
  have HROW := Lib.hid (rowIs_rowV h2 (by omega) (fun _ _ => hb))
  have HBS := Lib.hid (show ¬ Foot p d bs from fun q => by have := (H1.out.foot q).2; omega)
  have HH := Lib.hid ((hc2.block H (blk_lt HR.out.cx) (fun f => f)).trans HR.out.cx)
  clear h2 hb2 hc2 y0 y1 y2 y3 y13 H1
  go_wp2_with (first
    | (go_at_call 24; refine (arm_any base p d x.pl w2 H2.out HX.out.pl).mono ?_; rintro e w3 ⟨rfl, hp3⟩))
  have HP := Lib.hid (show DPost base p d (armD d x.pl) (.int .i64 0) w (.returned (.int .i64 0)) w3 from (DPost.since (r := .int .i64 0) ⟨rfl, hp3⟩ HC.out))
  clear hp3
  go_wp2
  go_ret
  exact HP.out
set_option maxHeartbeats 1600000 in
set_option maxRecDepth 100000 in
theorem does_crash (base : Nat) (p : Ph) (d : Dev) (x : OpD) (t : Nat) (A : Option Addr) (C : Nat) (w : World) (h : DevIs base w p d) (hx : OpOk x) (hl : Lim d t) (hm : LimM d t) (ht : t ≤ 1000000) (hV : x.V = .slice A x.m C) (hQ : RowQ w x.V x.m x.q) (hF : ∀ b o, A = some ⟨b, o, none⟩ → 0 < x.m → ¬ Foot p d b) (hk : x.kd = 4) (hsh : x.sh = false) :
    Calls Try.prog 12 #[.pointer (some ⟨p.B, 0, none⟩), .agg (opC x)] w (DPost base p d (doesD d x) (.int .i64 (doesE d x)) w) := by
  obtain ⟨w1, H, hR⟩ := opR w x
  have h1 : DevIs base w1 p d := h.gr hR.ch
  have y0 : w1.cell? ⟨H, 0, none⟩ = some (.int .i64 x.kd) := hR.at 0
  have y1 : w1.cell? ⟨H, 1, none⟩ = some (.int .i64 x.pl) := hR.at 1
  have y2 : w1.cell? ⟨H, 2, none⟩ = some (.int .u8 (x.b : Int)) := hR.at 2
  have y3 : w1.cell? ⟨H, 3, none⟩ = some (.bool x.sh) := hR.at 3
  have y13 : w1.cell? ⟨H, 13, none⟩ = some x.V := hR.at 13
  rw [hsh] at y3
  rw [hV] at y13
  have hb := hx.b
  have HR := Lib.hid hR
  have H1 := Lib.hid h1
  have HX := Lib.hid hx
  have HL := Lib.hid hl
  have HM := Lib.hid hm
  have HQ := Lib.hid hQ
  have HF := Lib.hid hF
  have HV := Lib.hid hV
  have hS : doesE d x = 0 ∧ doesD d x = crashD d x.m x.q := by unfold doesE doesD; simp [hk]
  rw [hS.1, hS.2]
  rw [hk] at y0
  clear hS h h1 hx hl hm hQ hF hV hR hsh hk
  go_enter Try.func12, Try.ntmps12
  go_wp2_with ((with_reducible refine wpList_same ?_); refine wpList_boxing _ w1 rfl 37 (.tmp 1) rfl (opC x) H rfl (by exact HR.out.sz) (by exact HR.out.al) ?_)
  refine (sector_any x.b hb _).mono ?_
  rintro e w2 ⟨bs, rfl, h2, hb2, hc2⟩
  have z0 := hc2.cell y0 (fun f => f)
  have z1 := hc2.cell y1 (fun f => f)
  have z3 := hc2.cell y3 (fun f => f)
  have z13 := hc2.cell y13 (fun f => f)
  have H2 := Lib.hid (H1.out.gr hc2)
  have HC := Lib.hid (HR.out.ch.trans hc2)
  have HROW := Lib.hid (rowIs_rowV h2 (by omega) (fun _ _ => hb))
  have HBS := Lib.hid (show ¬ Foot p d bs from fun q => by have := (H1.out.foot q).2; omega)
  have HH := Lib.hid ((hc2.block H (blk_lt HR.out.cx) (fun f => f)).trans HR.out.cx)
  clear h2 hb2 hc2 y0 y1 y2 y3 y13 H1
  go_wp2_with (first
    | (go_at_call 18; refine (crash_any base p d A x.m C x.q w2 H2.out (by have := HL.out.W; omega) (by rw [← HV.out]; exact HQ.out.gr HC.out) HF.out).mono ?_; rintro e w3 ⟨rfl, hp3⟩))
  have HP := Lib.hid (show DPost base p d (crashD d x.m x.q) (.int .i64 0) w (.returned (.int .i64 0)) w3 from (DPost.since (r := .int .i64 0) ⟨rfl, hp3⟩ HC.out))
  clear hp3
  go_wp2
  go_ret
  exact HP.out
set_option maxHeartbeats 1600000 in
set_option maxRecDepth 100000 in
theorem does_rest (base : Nat) (p : Ph) (d : Dev) (x : OpD) (t : Nat) (A : Option Addr) (C : Nat) (w : World) (h : DevIs base w p d) (hx : OpOk x) (hl : Lim d t) (hm : LimM d t) (ht : t ≤ 1000000) (hV : x.V = .slice A x.m C) (hQ : RowQ w x.V x.m x.q) (hF : ∀ b o, A = some ⟨b, o, none⟩ → 0 < x.m → ¬ Foot p d b) (hk : ¬ x.kd = 0 ∧ ¬ x.kd = 1 ∧ ¬ x.kd = 2 ∧ ¬ x.kd = 3 ∧ ¬ x.kd = 4) (hsh : x.sh = false) :
    Calls Try.prog 12 #[.pointer (some ⟨p.B, 0, none⟩), .agg (opC x)] w (DPost base p d (doesD d x) (.int .i64 (doesE d x)) w) := by
  obtain ⟨w1, H, hR⟩ := opR w x
  have h1 : DevIs base w1 p d := h.gr hR.ch
  have y0 : w1.cell? ⟨H, 0, none⟩ = some (.int .i64 x.kd) := hR.at 0
  have y1 : w1.cell? ⟨H, 1, none⟩ = some (.int .i64 x.pl) := hR.at 1
  have y2 : w1.cell? ⟨H, 2, none⟩ = some (.int .u8 (x.b : Int)) := hR.at 2
  have y3 : w1.cell? ⟨H, 3, none⟩ = some (.bool x.sh) := hR.at 3
  have y13 : w1.cell? ⟨H, 13, none⟩ = some x.V := hR.at 13
  rw [hsh] at y3
  rw [hV] at y13
  have hb := hx.b
  have HR := Lib.hid hR
  have H1 := Lib.hid h1
  have HX := Lib.hid hx
  have HL := Lib.hid hl
  have HM := Lib.hid hm
  have HQ := Lib.hid hQ
  have HF := Lib.hid hF
  have HV := Lib.hid hV
  have hS : doesE d x = 0 ∧ doesD d x = d := by unfold doesE doesD; simp [hk]
  rw [hS.1, hS.2]
  have t0 : (x.kd == 0) = false := by simpa using hk.1
  have t1 : (x.kd == 1) = false := by simpa using hk.2.1
  have t2 : (x.kd == 2) = false := by simpa using hk.2.2.1
  have t3 : (x.kd == 3) = false := by simpa using hk.2.2.2.1
  have t4 : (x.kd == 4) = false := by simpa using hk.2.2.2.2
  clear hS h h1 hx hl hm hQ hF hV hR hsh hk
  go_enter Try.func12, Try.ntmps12
  go_wp2_with ((with_reducible refine wpList_same ?_); refine wpList_boxing _ w1 rfl 37 (.tmp 1) rfl (opC x) H rfl (by exact HR.out.sz) (by exact HR.out.al) ?_)
  refine (sector_any x.b hb _).mono ?_
  rintro e w2 ⟨bs, rfl, h2, hb2, hc2⟩
  have z0 := hc2.cell y0 (fun f => f)
  have z1 := hc2.cell y1 (fun f => f)
  have z3 := hc2.cell y3 (fun f => f)
  have z13 := hc2.cell y13 (fun f => f)
  have H2 := Lib.hid (H1.out.gr hc2)
  have HC := Lib.hid (HR.out.ch.trans hc2)
  have HROW := Lib.hid (rowIs_rowV h2 (by omega) (fun _ _ => hb))
  have HBS := Lib.hid (show ¬ Foot p d bs from fun q => by have := (H1.out.foot q).2; omega)
  have HH := Lib.hid ((hc2.block H (blk_lt HR.out.cx) (fun f => f)).trans HR.out.cx)
  clear h2 hb2 hc2 y0 y1 y2 y3 y13 H1
  have HP := Lib.hid (DPost.turned (base := base) (r := .int .i64 0) H2.out rfl (HC.out.mono fun _ _ f => f.elim) (w := w))
  go_wp2
  go_ret
  exact HP.out
theorem does_any (base : Nat) (p : Ph) (d : Dev) (x : OpD) (t : Nat) (w : World) (h : DevIs base w p d) (hx : OpOk x) (hl : Lim d t) (hm : LimM d t) (ht : t ≤ 1000000) (hQ : RowQ w x.V x.m x.q) (hF : ∀ b o C, x.V = .slice (some ⟨b, o, none⟩) x.m C → 0 < x.m → ¬ Foot p d b) :
    Calls Try.prog 12 #[.pointer (some ⟨p.B, 0, none⟩), .agg (opC x)] w (DPost base p d (doesD d x) (.int .i64 (doesE d x)) w) := by
  obtain ⟨A, C, hV, _⟩ := id hQ
  have hF' : ∀ b o, A = some ⟨b, o, none⟩ → 0 < x.m → ¬ Foot p d b := fun b o e hm => hF b o C (by rw [hV, e]) hm
  cases hs : x.sh
  · by_cases k0 : x.kd = 0
    · exact does_write base p d x t A C w h hx hl hm ht hV hQ hF' k0 hs
    by_cases k1 : x.kd = 1
    · exact does_flush base p d x t A C w h hx hl hm ht hV hQ hF' k1 hs
    by_cases k2 : x.kd = 2
    · exact does_fault base p d x t A C w h hx hl hm ht hV hQ hF' k2 hs
    by_cases k3 : x.kd = 3
    · exact does_arm base p d x t A C w h hx hl hm ht hV hQ hF' k3 hs
    by_cases k4 : x.kd = 4
    · exact does_crash base p d x t A C w h hx hl hm ht hV hQ hF' k4 hs
    exact does_rest base p d x t A C w h hx hl hm ht hV hQ hF' ⟨k0, k1, k2, k3, k4⟩ hs
  · by_cases k0 : x.kd = 0
    · exact does_writeS base p d x t A C w h hx hl hm ht hV hQ hF' k0 hs
    by_cases k1 : x.kd = 1
    · exact does_flushS base p d x t A C w h hx hl hm ht hV hQ hF' k1 hs
    by_cases k2 : x.kd = 2
    · exact does_faultS base p d x t A C w h hx hl hm ht hV hQ hF' k2 hs
    by_cases k3 : x.kd = 3
    · exact does_armS base p d x t A C w h hx hl hm ht hV hQ hF' k3 hs
    by_cases k4 : x.kd = 4
    · exact does_crashS base p d x t A C w h hx hl hm ht hV hQ hF' k4 hs
    exact does_restS base p d x t A C w h hx hl hm ht hV hQ hF' ⟨k0, k1, k2, k3, k4⟩ hs
#print axioms does_any
end Go.Proofs.Ytkbhpkpacojpcaa
