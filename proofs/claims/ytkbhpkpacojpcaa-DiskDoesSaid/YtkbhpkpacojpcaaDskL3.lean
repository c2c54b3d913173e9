/-
  DiskKeeps, walked: what was flushed stays.
-/
import Derived.Test.YtkbhpkpacojpcaaDskV
import Derived.Test.YtkbhpkpacojpcaaDskL2
namespace Go.Proofs.Ytkbhpkpacojpcaa
open Go.RowKit
set_option linter.unusedVariables false

/-! ### a call out of the row of calls -/
theorem OpAt.range {w : World} {b o : Nat} {x : OpD} (h : OpAt w b o x) : w.rangeAt b o (opC x).toList := fun j v hj => by
  have hj14 : j < 14 := (List.getElem?_eq_some_iff.1 hj).1
  rw [← hj]
  have f := fun (i : Nat) (hi : i < 9) => h.cf i ((faC x.f)[i]'hi) (Array.getElem?_eq_getElem hi)
  match j, hj14 with
  | 0, _ => exact h.c0
  | 1, _ => exact h.c1
  | 2, _ => exact h.c2
  | 3, _ => exact h.c3
  | 4, _ => exact f 0 (by omega)
  | 5, _ => exact f 1 (by omega)
  | 6, _ => exact f 2 (by omega)
  | 7, _ => exact f 3 (by omega)
  | 8, _ => exact f 4 (by omega)
  | 9, _ => exact f 5 (by omega)
  | 10, _ => exact f 6 (by omega)
  | 11, _ => exact f 7 (by omega)
  | 12, _ => exact f 8 (by omega)
  | 13, _ => exact h.cv
theorem OpAt.load {w : World} {b o : Nat} {x : OpD} (h : OpAt w b o x) : (loadVar 37 ⟨b, o, none⟩).run Try.prog w = .ok (.agg (opC x)) w :=
  run_loadVar_mid w b o _ (opC x).toList _ h.range Try.underlying37 rfl (show _ = some 14 by kernel_rfl)
theorem OpAt.ok {w : World} {b o : Nat} {x : OpD} (h : OpAt w b o x) : OpOk x := ⟨h.kd, h.pl, h.by8, h.fok⟩
theorem opC_one {w : World} {b o : Nat} {x : OpD} (h : OpAt w b o x) : (opC x).all (·.oneCell') = true := by
  obtain ⟨A, C, hV, _⟩ := h.keep
  unfold opC
  rw [hV]
  simp [Value.oneCell']
/-- A call is laid into a variable of its own. -/
structure OpV (wr wz wx : World) (H : Nat) (x : OpD) : Prop where
  al : wr.alloc (.cells (opC op0) 37) = wz
  sz : wr.heap.size = H
  st : (storeVar 37 ⟨H, 0, none⟩ (.agg (opC x))).run Try.prog wz = .ok () wx
  l2 : (loadVar 37 ⟨H, 0, none⟩).run Try.prog wx = .ok (.agg (opC x)) wx
  cx : wx.heap[H]? = some (.cells (opC x) 37 (0, 0))
  ch : Ch (fun _ => False) wr wx
theorem opV (wr : World) {b o : Nat} {x : OpD} (h : OpAt wr b o x) : ∃ wz wx H, OpV wr wz wx H x := by
  refine ⟨_, wr.alloc (.cells (opC x) 37), wr.heap.size, rfl, rfl, ?_, ?_, heap_alloc_new _ _, (Ch.refl _ wr).alloc _ _⟩
  · exact run_storeVar_new (P := Try.prog) wr _ _ _ (show _ = some 14 by kernel_rfl) rfl (opC_one h)
  · exact run_loadVar_row _ _ _ _ (opC x) (0, 0) _ (heap_alloc_new _ _) Try.underlying37 rfl (show _ = some 14 by kernel_rfl)
theorem zero_op (w : World) : (zeroValue 37).run Try.prog w = .ok (.agg (opC op0)) w := Try.zeroValue37 w
/-- (A guard: the step at hand is this one.) -/
theorem wpList_isOp {P : Program} {ops : Array Oper} {rest : List Oper} {o : Oper} {a : Act} {Q : Exit → Act → World → Prop} {w : World} (op : Op) (ho : o.op = op) (h : wpList P ops Q (o :: rest) a w) : wpList P ops Q (o :: rest) a w := h
theorem OneX.does {w0 w : World} {X : Nat → Prop} {B t : Nat} {d : Dev} {x : OpD} (h : OneX w0 X B d w) (hx : OpOk x) (hl : Lim d t) (hm : LimM d t) (ht : t ≤ 1000000) (hQ : RowQ w0 x.V x.m x.q) :
    Calls Try.prog 12 #[.pointer (some ⟨B, 0, none⟩), .agg (opC x)] w (OnePX w0 X B (doesD d x) (.int .i64 (doesE d x)) w) :=
  h.run (Ch.refl _ w) fun p hp h3 _ => by
    subst hp
    refine does_any _ p d x t w h3 hx hl hm ht (hQ.gr h.ch) (fun b o C hv h0 q => ?_)
    obtain ⟨A, D, e, _, hc⟩ := hQ
    obtain ⟨b', o', e2, hcell⟩ := hc h0
    rw [hv] at e
    injection e with e _ _
    rw [e2] at e
    injection e with e
    injection e with e _
    have h5 := World.block_lt_of_cell? _ _ (hcell 0 h0)
    have h6 := (h3.foot q).1
    simp at h5
    omega
theorem OneX.crash0 {w0 w : World} {X : Nat → Prop} {B t C : Nat} {d : Dev} (h : OneX w0 X B d w) (hl : Lim d t) (ht : t ≤ 1000000) : Calls Try.prog 18 #[.pointer (some ⟨B, 0, none⟩), .slice none 0 C] w (OnePX w0 X B (crashD d 0 (fun _ => false)) (.tuple #[]) w) :=
  h.run (Ch.refl _ w) fun p hp h3 _ => by
    subst hp
    exact crash_any _ p d none 0 C (fun _ => false) w h3 (by have := hl.W; omega) ⟨none, C, rfl, by omega, fun h => absurd h (Nat.lt_irrefl 0)⟩ (fun b o e => by cases e)

/-! ### between two rounds -/
structure KpSt (w0 w : World) (B a b t : Nat) : Prop where
  dev : ∃ d, OneX w0 (fun _ => False) B d w ∧ Keep d a b ∧ Lim d t ∧ LimM d t
theorem KpSt.gr {w0 w w' : World} {B a b t : Nat} (h : KpSt w0 w B a b t) (k : Ch (fun _ => False) w w') : KpSt w0 w' B a b t := by
  obtain ⟨d, h1, h2⟩ := h.dev
  exact ⟨d, h1.gr k, h2⟩
theorem Lim.up {d : Dev} {t t' : Nat} (h : Lim d t) (ht : t ≤ t') : Lim d t' := ⟨Nat.le_trans h.ops ht, Nat.le_trans h.W ht, fun a => Nat.le_trans (h.drops a) (by omega)⟩
theorem KpSt.more {w0 w : World} {B a b t t' : Nat} (h : KpSt w0 w B a b t) (ht : t ≤ t') : KpSt w0 w B a b t' := by
  obtain ⟨d, h1, h2, h3, h4⟩ := h.dev
  exact ⟨d, h1, h2, h3.up ht, fun k => Nat.le_trans (h4 k) ht⟩
theorem KpSt.does {w0 w : World} {B a b t : Nat} {x : OpD} (h : KpSt w0 w B a b t) (hx : OpOk x) (ht : t ≤ 1000000) (hQ : RowQ w0 x.V x.m x.q) (h0 : x.kd = 0 → x.pl ≠ (a : Int)) (h2 : x.kd = 2 → x.f.pl ≠ (a : Int) ∧ x.f.to ≠ (a : Int)) :
    Calls Try.prog 12 #[.pointer (some ⟨B, 0, none⟩), .agg (opC x)] w fun e w' => ∃ v, e = .returned v ∧ KpSt w0 w' B a b (t + 1) := by
  obtain ⟨d, h1, hk, hl, hm⟩ := h.dev
  refine (h1.does hx hl hm ht hQ).mono ?_
  rintro e w' ⟨rfl, h3, _⟩
  obtain ⟨l1, l2⟩ := (near_does d x).lim hl hm
  exact ⟨_, rfl, _, h3, keep_does hk h0 h2, l1, l2⟩
theorem keep0 {d : Dev} {last : Nat → Nat} {a : Nat} (h : Plain d last) (hW : d.W = []) (ha : a < 20) : Keep d a (last a) :=
  ⟨h.n, fun x hx => (by rw [hW] at hx; cases hx), fun k y hy => (by rw [h.miss] at hy; cases hy), fun c hc => (by
    have := h.val a c ha hc
    unfold readZ at this
    rw [hW] at this
    exact this), h.lost a⟩
theorem flush_W {d : Dev} {last : Nat → Nat} (h : Plain d last) : (flushD d).W = [] := by unfold flushD; rw [h.dead, h.dies.1]; rfl
/-- The end: what waits is gone, the sector has what it had. -/
theorem keep_end {d : Dev} {a b : Nat} (h : Keep d a b) (ha : a < 20) : hasP (crashD d 0 (fun _ => false)) (a : Int) b = true := by
  have hk := keep_crash (m := 0) (q := fun _ => false) h
  have ho : openE (crashD d 0 (fun _ => false)) (a : Int) = 0 := by
    unfold openE hasB
    rw [hk.n]
    show (if false = true then (21 : Int) else _) = 0
    simp
    omega
  refine hasP_yes ?_ (fun c hc => ?_)
  · unfold readE
    rw [if_pos ho, Int.toNat_natCast, hk.lost, Bool.and_false]
    rfl
  · unfold readZ
    rw [Int.toNat_natCast]
    show (crashD d 0 (fun _ => false)).has a c = b
    exact hk.has c hc
#print axioms keep_end
set_option maxHeartbeats 3200000 in
set_option maxRecDepth 100000 in
theorem diskKeeps_any (at' : Int) (b : Nat) (A : Option Addr) (n C : Nat) (F : Nat → OpD) (w : World) (hb : b < 256) (h : RowO w (.slice A n C) n F) : Calls Try.prog 4 #[.int .i64 at', .int .u8 (b : Int), .slice A n C] w (Told w) := by
  have hn63 : n ≤ 9223372036854775807 := by obtain ⟨_, _, _, h1, _⟩ := h; exact h1
  by_cases h1 : at' < 0
  · clear h
    go_enter Try.func4, Try.ntmps4
    go_wp2_with fail
    refine (awake_any _).mono ?_
    rintro e w1 ⟨rfl, hc1⟩
    have HC1 := Lib.hid hc1
    clear hc1
    go_wp2
    go_ret
    exact ⟨rfl, HC1.out⟩
  by_cases h2 : 19 < at'
  · clear h
    go_enter Try.func4, Try.ntmps4
    go_wp2_with fail
    refine (awake_any _).mono ?_
    rintro e w1 ⟨rfl, hc1⟩
    have HC1 := Lib.hid hc1
    clear hc1
    go_wp2
    go_ret
    exact ⟨rfl, HC1.out⟩
  by_cases hbig : 60 < n
  · clear h
    go_enter Try.func4, Try.ntmps4
    go_wp2_with fail
    refine (awake_any _).mono ?_
    rintro e w1 ⟨rfl, hc1⟩
    have HC1 := Lib.hid hc1
    clear hc1
    go_wp2
    go_ret
    exact ⟨rfl, HC1.out⟩
  obtain ⟨a, rfl⟩ : ∃ a : Nat, at' = (a : Int) := ⟨at'.toNat, by omega⟩
  have ha20 : a < 20 := by omega
  have HO := Lib.hid h
  have hn60 : n ≤ 60 := by omega
  have a1 : (a : Int) ≤ 19 := by omega
  have a0 : (0 : Int) ≤ (a : Int) := Int.natCast_nonneg _
  have HA := Lib.hid ha20
  clear h h1 h2 hbig hn63
  go_enter Try.func4, Try.ntmps4
  go_wp2_with fail
  refine (awake_any _).mono ?_
  rintro e w1 ⟨rfl, hc1⟩
  have HC1 := Lib.hid hc1
  clear hc1
  go_wp2_with fail
  refine (show Calls Try.prog _ #[.int .i64 20] _ _ from OneX.new (X := fun _ => False) 20 w1 (by omega) (by omega) w HC1.out (fun _ f => f.elim)).mono ?_
  rintro e w2 ⟨B, rfl, h2⟩
  have H2 := Lib.hid h2
  clear h2
  go_wp2_with fail
  refine (sector_any b hb _).mono ?_
  rintro e w3 ⟨b3, rfl, h3, hb3, hc3⟩
  obtain ⟨e1, e2, e3⟩ := plain0.write (b := b) HA.out (t := 0) ⟨Nat.le_refl _, Nat.le_refl _, fun _ => Nat.le_refl _⟩
  have HW := Lib.hid (H2.out.write (a := (a : Int)) h3 hb hb3 hc3 (t := 0) ⟨Nat.le_refl _, Nat.le_refl _, fun _ => Nat.le_refl _⟩ (by omega))
  rw [e1] at HW
  obtain ⟨f1, f2, f3⟩ := e2.flush e3
  have HE2 := Lib.hid e2
  have HE3 := Lib.hid e3
  have HF1 := Lib.hid f1
  have HF2 := Lib.hid f2
  have HF3 := Lib.hid f3
  clear h3 hb3 hc3 e1 e2 e3 f1 f2 f3
  go_wp2_with fail
  refine HW.out.mono ?_
  rintro e w4 ⟨rfl, h4, _⟩
  have H4 := Lib.hid (h4.flush HE3.out (by omega))
  rw [HF1.out] at H4
  clear h4
  go_wp2_with fail
  refine H4.out.mono ?_
  rintro e w5 ⟨rfl, h5, _⟩
  have hst : KpSt w w5 B a b 2 := by
    have hk := keep0 HF2.out (flush_W HE2.out) HA.out
    rw [up_same] at hk
    exact ⟨_, h5, hk, HF3.out.up (by omega), fun k => by rw [HF2.out.miss]; exact Nat.zero_le _⟩
  have HST := Lib.hid hst
  clear h5 hst H2 HW H4 HE2 HE3 HF1 HF2 HF3
  go_wp2_with fail
  go_loopw [12, 13] (fun i _ wr => ∃ k : Nat, k ≤ n ∧ i = .int .i64 k ∧ Hid (KpSt w wr B a b (k + 2))) (fun i _ _ => n - (intOf i).toNat)
  case atStart => exact ⟨0, Nat.zero_le _, rfl, HST⟩
  case round =>
    obtain ⟨k, hk, rfl, HK⟩ := hrel
    by_cases hlt : k < n
    · obtain ⟨b0, o, rfl, hops⟩ := HO.out.at (by omega)
      obtain ⟨x, hx⟩ : ∃ x, x = F k := ⟨_, rfl⟩
      obtain ⟨dq, hone, _⟩ := HK.out.dev
      have hop0 : OpAt w b0 (o + k * 14) x := by rw [hx]; exact hops k hlt
      have hop : OpAt wr b0 (o + k * 14) x := hop0.gr hone.ch
      obtain ⟨wz, wx, H, hR⟩ := opV wr hop
      have HR := Lib.hid hR
      have HLD := Lib.hid hop.load
      have HOK := Lib.hid hop.ok
      have HQ := Lib.hid hop0.keep
      have HKX := Lib.hid (HK.out.gr hR.ch)
      have y0 : wx.cell? ⟨H, 0, none⟩ = some (.int .i64 x.kd) := blk_cell hR.cx
      have y1 : wx.cell? ⟨H, 1, none⟩ = some (.int .i64 x.pl) := blk_cell hR.cx
      have y5 : wx.cell? ⟨H, 5, none⟩ = some (.int .i64 x.f.pl) := blk_cell hR.cx
      have y8 : wx.cell? ⟨H, 8, none⟩ = some (.int .i64 x.f.to) := blk_cell hR.cx
      have i1 : (0 : Int) ≤ (k : Int) := Int.natCast_nonneg _
      have i2 : (k : Int) < (n : Int) := by omega
      clear hop hop0 hops hx hone hR
      by_cases k0 : x.kd = 0
      · have t0 : (x.kd == 0) = true := by simp [k0]
        by_cases q : x.pl = (a : Int)
        · have t1 : (x.pl == (a : Int)) = true := by simp [q]
          go_wp2_with (first
            | ((with_reducible refine wpList_isOp (.load 37 (.tmp 50)) rfl ?_); refine wpList_loading _ rfl 37 (.tmp 50) rfl (.agg (opC x)) ⟨b0, o + k * 14, none⟩ (by simp [Act.eval]) (by exact HLD.out) ?_)
            | ((with_reducible refine wpList_isOp (.alloc 37) rfl ?_); refine wpList_making _ wz rfl 37 rfl (opC op0) H (by exact zero_op _) (by exact HR.out.sz) (by exact HR.out.al) ?_)
            | ((with_reducible refine wpList_isOp (.store 37 (.tmp 13) (.tmp 51)) rfl ?_); refine wpList_storing _ wx rfl 37 (.tmp 13) (.tmp 51) rfl (.agg (opC x)) ⟨H, 0, none⟩ (by simp [Act.eval, Act.put]) (by simp [Act.eval, Act.put]) (by exact HR.out.st) ?_)
            | ((with_reducible refine wpList_isOp (.load 37 (.tmp 13)) rfl ?_); refine wpList_loading _ rfl 37 (.tmp 13) rfl (.agg (opC x)) ⟨H, 0, none⟩ (by simp [Act.eval]) (by exact HR.out.l2) ?_))
          have HN := Lib.hid (HKX.out.more (t' := k + 1 + 2) (by omega))
          go_roundw
          case rel => exact ⟨k + 1, by omega, by go_num, HN⟩
          case measure => simp [intOf]; omega
        · have t1 : (x.pl == (a : Int)) = false := by simpa using q
          have HDO := Lib.hid (HKX.out.does HOK.out (by omega) HQ.out (fun _ => q) (fun e => by omega))
          go_wp2_with (first
            | ((with_reducible refine wpList_isOp (.load 37 (.tmp 50)) rfl ?_); refine wpList_loading _ rfl 37 (.tmp 50) rfl (.agg (opC x)) ⟨b0, o + k * 14, none⟩ (by simp [Act.eval]) (by exact HLD.out) ?_)
            | ((with_reducible refine wpList_isOp (.alloc 37) rfl ?_); refine wpList_making _ wz rfl 37 rfl (opC op0) H (by exact zero_op _) (by exact HR.out.sz) (by exact HR.out.al) ?_)
            | ((with_reducible refine wpList_isOp (.store 37 (.tmp 13) (.tmp 51)) rfl ?_); refine wpList_storing _ wx rfl 37 (.tmp 13) (.tmp 51) rfl (.agg (opC x)) ⟨H, 0, none⟩ (by simp [Act.eval, Act.put]) (by simp [Act.eval, Act.put]) (by exact HR.out.st) ?_)
            | ((with_reducible refine wpList_isOp (.load 37 (.tmp 13)) rfl ?_); refine wpList_loading _ rfl 37 (.tmp 13) rfl (.agg (opC x)) ⟨H, 0, none⟩ (by simp [Act.eval]) (by exact HR.out.l2) ?_))
          refine HDO.out.mono ?_
          rintro e w6 ⟨v, rfl, h6⟩
          have HN := Lib.hid (show KpSt w w6 B a b (k + 1 + 2) from h6)
          clear h6
          go_wp2
          go_roundw
          case rel => exact ⟨k + 1, by omega, by go_num, HN⟩
          case measure => simp [intOf]; omega
      · have t0 : (x.kd == 0) = false := by simpa using k0
        by_cases k2 : x.kd = 2
        · have t2 : (x.kd == 2) = true := by simp [k2]
          by_cases q : x.f.pl = (a : Int)
          · have t1 : (x.f.pl == (a : Int)) = true := by simp [q]
            go_wp2_with (first
              | ((with_reducible refine wpList_isOp (.load 37 (.tmp 50)) rfl ?_); refine wpList_loading _ rfl 37 (.tmp 50) rfl (.agg (opC x)) ⟨b0, o + k * 14, none⟩ (by simp [Act.eval]) (by exact HLD.out) ?_)
              | ((with_reducible refine wpList_isOp (.alloc 37) rfl ?_); refine wpList_making _ wz rfl 37 rfl (opC op0) H (by exact zero_op _) (by exact HR.out.sz) (by exact HR.out.al) ?_)
              | ((with_reducible refine wpList_isOp (.store 37 (.tmp 13) (.tmp 51)) rfl ?_); refine wpList_storing _ wx rfl 37 (.tmp 13) (.tmp 51) rfl (.agg (opC x)) ⟨H, 0, none⟩ (by simp [Act.eval, Act.put]) (by simp [Act.eval, Act.put]) (by exact HR.out.st) ?_)
              | ((with_reducible refine wpList_isOp (.load 37 (.tmp 13)) rfl ?_); refine wpList_loading _ rfl 37 (.tmp 13) rfl (.agg (opC x)) ⟨H, 0, none⟩ (by simp [Act.eval]) (by exact HR.out.l2) ?_))
            have HN := Lib.hid (HKX.out.more (t' := k + 1 + 2) (by omega))
            go_roundw
            case rel => exact ⟨k + 1, by omega, by go_num, HN⟩
            case measure => simp [intOf]; omega
          · have t1 : (x.f.pl == (a : Int)) = false := by simpa using q
            by_cases q2 : x.f.to = (a : Int)
            · have t3 : (x.f.to == (a : Int)) = true := by simp [q2]
              go_wp2_with (first
                | ((with_reducible refine wpList_isOp (.load 37 (.tmp 50)) rfl ?_); refine wpList_loading _ rfl 37 (.tmp 50) rfl (.agg (opC x)) ⟨b0, o + k * 14, none⟩ (by simp [Act.eval]) (by exact HLD.out) ?_)
                | ((with_reducible refine wpList_isOp (.alloc 37) rfl ?_); refine wpList_making _ wz rfl 37 rfl (opC op0) H (by exact zero_op _) (by exact HR.out.sz) (by exact HR.out.al) ?_)
                | ((with_reducible refine wpList_isOp (.store 37 (.tmp 13) (.tmp 51)) rfl ?_); refine wpList_storing _ wx rfl 37 (.tmp 13) (.tmp 51) rfl (.agg (opC x)) ⟨H, 0, none⟩ (by simp [Act.eval, Act.put]) (by simp [Act.eval, Act.put]) (by exact HR.out.st) ?_)
                | ((with_reducible refine wpList_isOp (.load 37 (.tmp 13)) rfl ?_); refine wpList_loading _ rfl 37 (.tmp 13) rfl (.agg (opC x)) ⟨H, 0, none⟩ (by simp [Act.eval]) (by exact HR.out.l2) ?_))
              have HN := Lib.hid (HKX.out.more (t' := k + 1 + 2) (by omega))
              go_roundw
              case rel => exact ⟨k + 1, by omega, by go_num, HN⟩
              case measure => simp [intOf]; omega
            · have t3 : (x.f.to == (a : Int)) = false := by simpa using q2
              have HDO := Lib.hid (HKX.out.does HOK.out (by omega) HQ.out (fun e => (k0 e).elim) (fun _ => ⟨q, q2⟩))
              go_wp2_with (first
                | ((with_reducible refine wpList_isOp (.load 37 (.tmp 50)) rfl ?_); refine wpList_loading _ rfl 37 (.tmp 50) rfl (.agg (opC x)) ⟨b0, o + k * 14, none⟩ (by simp [Act.eval]) (by exact HLD.out) ?_)
                | ((with_reducible refine wpList_isOp (.alloc 37) rfl ?_); refine wpList_making _ wz rfl 37 rfl (opC op0) H (by exact zero_op _) (by exact HR.out.sz) (by exact HR.out.al) ?_)
                | ((with_reducible refine wpList_isOp (.store 37 (.tmp 13) (.tmp 51)) rfl ?_); refine wpList_storing _ wx rfl 37 (.tmp 13) (.tmp 51) rfl (.agg (opC x)) ⟨H, 0, none⟩ (by simp [Act.eval, Act.put]) (by simp [Act.eval, Act.put]) (by exact HR.out.st) ?_)
                | ((with_reducible refine wpList_isOp (.load 37 (.tmp 13)) rfl ?_); refine wpList_loading _ rfl 37 (.tmp 13) rfl (.agg (opC x)) ⟨H, 0, none⟩ (by simp [Act.eval]) (by exact HR.out.l2) ?_))
              refine HDO.out.mono ?_
              rintro e w6 ⟨v, rfl, h6⟩
              have HN := Lib.hid (show KpSt w w6 B a b (k + 1 + 2) from h6)
              clear h6
              go_wp2
              go_roundw
              case rel => exact ⟨k + 1, by omega, by go_num, HN⟩
              case measure => simp [intOf]; omega
        · have t2 : (x.kd == 2) = false := by simpa using k2
          have HDO := Lib.hid (HKX.out.does HOK.out (by omega) HQ.out (fun e => (k0 e).elim) (fun e => (k2 e).elim))
          go_wp2_with (first
            | ((with_reducible refine wpList_isOp (.load 37 (.tmp 50)) rfl ?_); refine wpList_loading _ rfl 37 (.tmp 50) rfl (.agg (opC x)) ⟨b0, o + k * 14, none⟩ (by simp [Act.eval]) (by exact HLD.out) ?_)
            | ((with_reducible refine wpList_isOp (.alloc 37) rfl ?_); refine wpList_making _ wz rfl 37 rfl (opC op0) H (by exact zero_op _) (by exact HR.out.sz) (by exact HR.out.al) ?_)
            | ((with_reducible refine wpList_isOp (.store 37 (.tmp 13) (.tmp 51)) rfl ?_); refine wpList_storing _ wx rfl 37 (.tmp 13) (.tmp 51) rfl (.agg (opC x)) ⟨H, 0, none⟩ (by simp [Act.eval, Act.put]) (by simp [Act.eval, Act.put]) (by exact HR.out.st) ?_)
            | ((with_reducible refine wpList_isOp (.load 37 (.tmp 13)) rfl ?_); refine wpList_loading _ rfl 37 (.tmp 13) rfl (.agg (opC x)) ⟨H, 0, none⟩ (by simp [Act.eval]) (by exact HR.out.l2) ?_))
          refine HDO.out.mono ?_
          rintro e w6 ⟨v, rfl, h6⟩
          have HN := Lib.hid (show KpSt w w6 B a b (k + 1 + 2) from h6)
          clear h6
          go_wp2
          go_roundw
          case rel => exact ⟨k + 1, by omega, by go_num, HN⟩
          case measure => simp [intOf]; omega
    · obtain rfl : k = n := by omega
      obtain ⟨d, hone, hkp, hlim, hlm⟩ := HK.out.dev
      have HCR := Lib.hid (hone.crash0 (C := 0) hlim (by omega))
      have HLE := Lib.hid ((near_crash d 0 (fun _ => false)).lim hlim hlm).1
      have HKE := Lib.hid (keep_end hkp HA.out)
      clear hone hkp hlim hlm
      go_wp2_with fail
      refine HCR.out.mono ?_
      rintro e w6 ⟨rfl, h6, _⟩
      have HH := Lib.hid (h6.has (a := (a : Int)) hb HLE.out (by omega))
      rw [HKE.out] at HH
      clear h6
      go_wp2_with fail
      refine HH.out.mono ?_
      rintro e w7 ⟨rfl, h7, _⟩
      have HE := Lib.hid h7.ch
      clear h7
      go_wp2
      go_ret
      exact ⟨rfl, HE.out⟩
theorem diskKeeps_of (a b : Int) (v : Value) (w : World) {n : Nat} {F : Nat → OpD} (ha : -9223372036854775808 ≤ a ∧ a ≤ 9223372036854775807) (hb : 0 ≤ b ∧ b < 256) (h : RowO w v n F) : Calls Try.prog 4 #[.int .i64 a, .int .u8 b, v] w (Told w) := by
  obtain ⟨A, C, rfl, _⟩ := id h
  obtain ⟨c, rfl⟩ : ∃ c : Nat, b = (c : Int) := ⟨b.toNat, by omega⟩
  exact diskKeeps_any a c A n C F w (by omega) h
#print axioms diskKeeps_of
end Go.Proofs.Ytkbhpkpacojpcaa
