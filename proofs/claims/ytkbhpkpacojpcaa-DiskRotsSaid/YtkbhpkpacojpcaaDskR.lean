/-
  DiskRots, walked (the walk).
-/
import Derived.Test.YtkbhpkpacojpcaaDskL5
namespace Go.Proofs.Ytkbhpkpacojpcaa
open Go.RowKit
set_option linter.unusedVariables false

def rotF (f : Fa) : Fa := ⟨1, f.pl, f.off, 0, 0, f.k0, f.k1, f.k2, f.k3⟩
def loseF (f : Fa) : Fa := ⟨3, f.pl, 0, 0, 0, 0, 0, 0, 0⟩
def maskC (f : Fa) : Array Value := #[.int .u8 (f.k0 : Int), .int .u8 (f.k1 : Int), .int .u8 (f.k2 : Int), .int .u8 (f.k3 : Int)]
theorem rotF_ok {f : Fa} (h : FaOk f) : FaOk (rotF f) := ⟨i64_lit (x := 1) (by decide), h.pl, h.off, i64_lit (x := 0) (by decide), i64_lit (x := 0) (by decide), h.k0, h.k1, h.k2, h.k3⟩
theorem loseF_ok {f : Fa} (h : FaOk f) : FaOk (loseF f) := ⟨i64_lit (x := 3) (by decide), h.pl, i64_lit (x := 0) (by decide), i64_lit (x := 0) (by decide), i64_lit (x := 0) (by decide), (by decide : 0 < 256), (by decide : 0 < 256), (by decide : 0 < 256), (by decide : 0 < 256)⟩
theorem built_rot (f : Fa) (w : World) : (Instr.build 34 #[(0, .int .i64 1), (1, .int .i64 f.pl), (2, .int .i64 f.off), (5, .agg (maskC f))]).run Try.prog w = .ok (.agg (faC (rotF f))) w := run_build w _ _ _ (by kernel_rfl)
theorem built_lose (f : Fa) (w : World) : (Instr.build 34 #[(0, .int .i64 3), (1, .int .i64 f.pl)]).run Try.prog w = .ok (.agg (faC (loseF f))) w := run_build w _ _ _ (by kernel_rfl)
theorem load_mask {w : World} {H : Nat} {f : Fa} (h : w.heap[H]? = some (.cells (faC f) 34 (0, 0))) : (loadVar 32 ⟨H, 5, none⟩).run Try.prog w = .ok (.agg (maskC f)) w := by
  have := run_loadVar_mid (P := Try.prog) w H 5 _ (maskC f).toList _ (fun j v hj => by
    rw [blk_cell h]
    have hj4 : j < 4 := (List.getElem?_eq_some_iff.1 hj).1
    rw [← hj]
    match j, hj4 with
    | 0, _ => rfl
    | 1, _ => rfl
    | 2, _ => rfl
    | 3, _ => rfl) Try.underlying32 rfl (show _ = some 4 by kernel_rfl)
  simpa using this
theorem zero_fa (w : World) : (zeroValue 34).run Try.prog w = .ok (.agg (faC ⟨0, 0, 0, 0, 0, 0, 0, 0, 0⟩)) w := Try.zeroValue34 w
theorem wpList_building4 {P : Program} {ops : Array Oper} {rest : List Oper} {o : Oper} {a : Act} {Q : Exit → Act → World → Prop} (w : World) (hgd : o.guard = none) (t : TypeId) (i1 i2 i3 i4 : Nat) (x1 x2 x3 x4 : Operand) (ho : o.op = .build t #[(i1, x1), (i2, x2), (i3, x3), (i4, x4)]) (u1 u2 u3 u4 v : Value) (hx1 : a.eval x1 = u1) (hx2 : a.eval x2 = u2) (hx3 : a.eval x3 = u3) (hx4 : a.eval x4 = u4)
    (hr : (Instr.build t #[(i1, u1), (i2, u2), (i3, u3), (i4, u4)]).run P w = .ok v w) (h : wpList P ops Q rest (a.put o.dst v) w) : wpList P ops Q (o :: rest) a w := by
  refine wpList_plain hgd fun K hK => ?_
  unfold Oper.wp execOp
  simp only [ho, hx1, hx2, hx3, hx4, Sem.run_bind, Sem.run_pure, Result.andThen_ok, hr, List.map_toArray, List.map_cons, List.map_nil]
  exact hK _ _ h
theorem wpList_building2 {P : Program} {ops : Array Oper} {rest : List Oper} {o : Oper} {a : Act} {Q : Exit → Act → World → Prop} (w : World) (hgd : o.guard = none) (t : TypeId) (i1 i2 : Nat) (x1 x2 : Operand) (ho : o.op = .build t #[(i1, x1), (i2, x2)]) (u1 u2 v : Value) (hx1 : a.eval x1 = u1) (hx2 : a.eval x2 = u2)
    (hr : (Instr.build t #[(i1, u1), (i2, u2)]).run P w = .ok v w) (h : wpList P ops Q rest (a.put o.dst v) w) : wpList P ops Q (o :: rest) a w := by
  refine wpList_plain hgd fun K hK => ?_
  unfold Oper.wp execOp
  simp only [ho, hx1, hx2, Sem.run_bind, Sem.run_pure, Result.andThen_ok, hr, List.map_toArray, List.map_cons, List.map_nil]
  exact hK _ _ h
/-- A fault is laid into a variable of its own. -/
structure FaV (wr wz wx : World) (H : Nat) (f : Fa) : Prop where
  al : wr.alloc (.cells (faC ⟨0, 0, 0, 0, 0, 0, 0, 0, 0⟩) 34) = wz
  sz : wr.heap.size = H
  st : (storeVar 34 ⟨H, 0, none⟩ (.agg (faC f))).run Try.prog wz = .ok () wx
  cx : wx.heap[H]? = some (.cells (faC f) 34 (0, 0))
  ch : Ch (fun _ => False) wr wx
theorem faV (wr : World) (f : Fa) : ∃ wz wx H, FaV wr wz wx H f := by
  refine ⟨_, wr.alloc (.cells (faC f) 34), wr.heap.size, rfl, rfl, ?_, heap_alloc_new _ _, (Ch.refl _ wr).alloc _ _⟩
  exact run_storeVar_new (P := Try.prog) wr _ _ _ (show _ = some 9 by kernel_rfl) rfl (by simp [faC, Value.oneCell'])
theorem limM_read {d : Dev} {a : Int} {t : Nat} (h : LimM d t) : LimM (readD d a) t := by
  unfold readD
  split
  · exact h
  · exact h
theorem readZ_read (d : Dev) (a b : Int) : readZ (readD d a) b = readZ d b := by
  unfold readD
  split
  · rfl
  · rfl
theorem lost_read (d : Dev) (a : Int) : (readD d a).lost = d.lost := by
  unfold readD
  split
  · rfl
  · rfl
/-- A device, and its copy. -/
structure Two (w0 : World) (X : Nat → Prop) (b c : Nat) (d e : Dev) (w : World) : Prop where
  dev : ∃ B D, Devs w0 X 2 B D w ∧ B 0 = b ∧ B 1 = c ∧ D 0 = d ∧ D 1 = e
section
variable {w0 w w1 : World} {X : Nat → Prop} {b c t : Nat} {d e : Dev}
theorem Two.gr (h : Two w0 X b c d e w) (k : Ch (fun _ => False) w w1) : Two w0 X b c d e w1 := by
  obtain ⟨B, D, h1, h2⟩ := h.dev
  exact ⟨B, D, h1.gr k, h2⟩
theorem Two.ch (h : Two w0 X b c d e w) : Ch (fun _ => False) w0 w := by
  obtain ⟨B, D, h1, h2⟩ := h.dev
  exact h1.ch
theorem Two.fault {f : Fa} (h : Two w0 X b c d e w) (hf : FaOk f) (hl : Lim d t) (hm : LimM d t) (ht : t ≤ 1000000) : Calls Try.prog 22 #[.pointer (some ⟨b, 0, none⟩), .agg (faC f)] w fun en w' => en = .returned (.int .i64 (faultE d f)) ∧ Two w0 X b c (faultD d f) e w' ∧ Ch (fun x => w0.heap.size ≤ x ∧ ¬ X x) w w' := by
  obtain ⟨B, D, h1, b0, b1, d0, d1⟩ := h.dev
  refine (h1.faultN (i := 0) (by omega) b0 d0 hf hl hm ht).mono ?_
  rintro en w' ⟨rfl, h2, h3⟩
  exact ⟨rfl, ⟨B, _, h2, b0, b1, up_same _ _ _, (up_other _ _ (by omega)).trans d1⟩, h3⟩
theorem Two.flush (h : Two w0 X b c d e w) (hl : Lim d t) (ht : t ≤ 1000000) : Calls Try.prog 17 #[.pointer (some ⟨b, 0, none⟩)] w fun en w' => en = .returned (.int .i64 (flushE d)) ∧ Two w0 X b c (flushD d) e w' ∧ Ch (fun x => w0.heap.size ≤ x ∧ ¬ X x) w w' := by
  obtain ⟨B, D, h1, b0, b1, d0, d1⟩ := h.dev
  refine (h1.flushN (i := 0) (by omega) b0 d0 hl ht).mono ?_
  rintro en w' ⟨rfl, h2, h3⟩
  exact ⟨rfl, ⟨B, _, h2, b0, b1, up_same _ _ _, (up_other _ _ (by omega)).trans d1⟩, h3⟩
theorem Two.has {a : Int} {bb : Nat} (h : Two w0 X b c d e w) (hb : bb < 256) (hl : Lim d t) (ht : t ≤ 1000000) : Calls Try.prog 19 #[.pointer (some ⟨b, 0, none⟩), .int .i64 a, .int .u8 (bb : Int)] w fun en w' => en = .returned (.bool (hasP d a bb)) ∧ Two w0 X b c (readD d a) e w' ∧ Ch (fun x => w0.heap.size ≤ x ∧ ¬ X x) w w' := by
  obtain ⟨B, D, h1, b0, b1, d0, d1⟩ := h.dev
  refine (h1.hasN (i := 0) (by omega) b0 d0 hb hl ht).mono ?_
  rintro en w' ⟨rfl, h2, h3⟩
  exact ⟨rfl, ⟨B, _, h2, b0, b1, up_same _ _ _, (up_other _ _ (by omega)).trans d1⟩, h3⟩
theorem Two.write {a : Int} {g bb : Nat} (h : Two w0 X b c d e w) (h1 : w1.rowIs g /-t-/5 256 (fun i => .int .u8 (((fun _ => bb) i : Nat) : Int))) (hbb : bb < 256) (hb : w.heap.size ≤ g) (hc : Ch (fun _ => False) w w1) (hl : Lim d t) (ht : t ≤ 1000000) :
    Calls Try.prog 15 #[.pointer (some ⟨b, 0, none⟩), .int .i64 a, .slice (some ⟨g, 0, none⟩) 256 256] w1 fun en w' => en = .returned (.int .i64 (writeE d a 256)) ∧ Two w0 X b c (writeD d a 256 (fun _ => bb)) e w' ∧ Ch (fun x => w0.heap.size ≤ x ∧ ¬ X x) w1 w' := by
  obtain ⟨B, D, h2, b0, b1, d0, d1⟩ := h.dev
  refine (h2.writeN (i := 0) (by omega) b0 d0 h1 hbb hb hc hl ht).mono ?_
  rintro en w' ⟨rfl, h3, h4⟩
  exact ⟨rfl, ⟨B, _, h3, b0, b1, up_same _ _ _, (up_other _ _ (by omega)).trans d1⟩, h4⟩
/-- What is read of the one, and of the copy. -/
theorem Two.read {a : Int} (h : Two w0 X b c d e w) (hl : Lim d t) (ht : t ≤ 1000000) : Calls Try.prog 21 #[.pointer (some ⟨b, 0, none⟩), .int .i64 a] w fun en w' => ∃ A C, en = .returned (.tuple #[.slice A (readL d a) C, .int .i64 (readE d a)]) ∧ RowV w' (.slice A (readL d a) C) (readL d a) (readZ d a) ∧ Two w0 X b c (readD d a) e w' ∧ Ch (fun x => w0.heap.size ≤ x ∧ ¬ X x) w w' := by
  obtain ⟨B, D, h1, b0, b1, d0, d1⟩ := h.dev
  refine (h1.readN (i := 0) (by omega) b0 d0 hl ht).mono ?_
  rintro en w' ⟨A, C, rfl, r⟩
  exact ⟨A, C, rfl, r.row, ⟨B, _, r.dev, b0, b1, up_same _ _ _, (up_other _ _ (by omega)).trans d1⟩, r.ch⟩
theorem Two.readC {a : Int} (h : Two w0 X b c d e w) (hl : Lim e t) (ht : t ≤ 1000000) : Calls Try.prog 21 #[.pointer (some ⟨c, 0, none⟩), .int .i64 a] w fun en w' => ∃ A C, en = .returned (.tuple #[.slice A (readL e a) C, .int .i64 (readE e a)]) ∧ RowV w' (.slice A (readL e a) C) (readL e a) (readZ e a) ∧ Two w0 X b c d (readD e a) w' ∧ Ch (fun x => w0.heap.size ≤ x ∧ ¬ X x) w w' := by
  obtain ⟨B, D, h1, b0, b1, d0, d1⟩ := h.dev
  refine (h1.readN (i := 1) (by omega) b1 d1 hl ht).mono ?_
  rintro en w' ⟨A, C, rfl, r⟩
  exact ⟨A, C, rfl, r.row, ⟨B, _, r.dev, b0, b1, (up_other _ _ (by omega)).trans d0, up_same _ _ _⟩, r.ch⟩
end
/-- Between two rounds: a calm device, beside the fault that was handed in. -/
structure RtSt (w0 w : World) (H B t : Nat) (f : Fa) : Prop where
  dev : ∃ d, Devs w0 (fun j => j = H) 1 (fun _ => B) (fun _ => d) w ∧ Calm d ∧ (∀ a, d.lost a = false) ∧ Lim d t ∧ LimM d t
  fa : w.heap[H]? = some (.cells (faC f) 34 (0, 0))
theorem RtSt.more {w0 w : World} {H B t t' : Nat} {f : Fa} (h : RtSt w0 w H B t f) (ht : t ≤ t') : RtSt w0 w H B t' f := by
  obtain ⟨d, h1, h2, h3, h4, h5⟩ := h.dev
  exact ⟨⟨d, h1, h2, h3, h4.up ht, fun k => Nat.le_trans (h5 k) ht⟩, h.fa⟩
theorem RtSt.ch {w0 w : World} {H B t : Nat} {f : Fa} (h : RtSt w0 w H B t f) : Ch (fun _ => False) w0 w := by
  obtain ⟨d, h1, _⟩ := h.dev
  exact h1.ch
theorem fa_stays {S : Nat → Prop} {w w' : World} {H : Nat} {f : Fa} (h : w.heap[H]? = some (.cells (faC f) 34 (0, 0))) (k : Ch S w w') (hS : ¬ S H) : w'.heap[H]? = some (.cells (faC f) 34 (0, 0)) := (k.block H (blk_lt h) hS).trans h
theorem RtSt.does {w0 w : World} {H B t : Nat} {f : Fa} {x : OpD} (h : RtSt w0 w H B t f) (hx : OpOk x) (ht : t ≤ 1000000) (hQ : RowQ w0 x.V x.m x.q) (h3 : x.kd < 2) :
    Calls Try.prog 12 #[.pointer (some ⟨B, 0, none⟩), .agg (opC x)] w fun e w' => ∃ v, e = .returned v ∧ RtSt w0 w' H B (t + 1) f := by
  obtain ⟨d, h1, hk, hlo, hl, hm⟩ := h.dev
  refine (h1.doesN (i := 0) (by omega) rfl rfl hx hl hm ht hQ).mono ?_
  rintro e w' ⟨rfl, h4, k4⟩
  obtain ⟨l1, l2⟩ := (near_does d x).lim hl hm
  obtain ⟨c1, c2⟩ := calm_does hk hlo h3
  exact ⟨_, rfl, ⟨_, h4.congr (fun i hi => ⟨rfl, by
    obtain rfl : i = 0 := by omega
    exact up_same _ _ _⟩), c1, c2, l1, l2⟩, fa_stays h.fa k4 (fun q => q.2 rfl)⟩
set_option maxHeartbeats 3200000 in
set_option maxRecDepth 100000 in
theorem diskRots_any (A : Option Addr) (n C : Nat) (F : Nat → OpD) (f : Fa) (b : Nat) (w : World) (h : RowO w (.slice A n C) n F) (hf : FaOk f) (hb : b < 256) : Calls Try.prog 6 #[.slice A n C, .agg (faC f), .int .u8 (b : Int)] w (Told w) := by
  have hn63 : n ≤ 9223372036854775807 := by obtain ⟨_, _, _, h1, _⟩ := h; exact h1
  obtain ⟨w1, H, hR⟩ := faR w f
  have HR := Lib.hid hR
  have HFOK := Lib.hid hf
  have x1 : w1.cell? ⟨H, 1, none⟩ = some (.int .i64 f.pl) := hR.at 1
  have HB1 := Lib.hid hR.cx
  have HO := Lib.hid h
  clear hR h hf
  by_cases hbig : 40 < n ∨ f.pl < 0 ∨ 19 < f.pl
  · by_cases q1 : 40 < n
    · clear hbig
      go_enter Try.func6, Try.ntmps6
      go_wp2_with ((with_reducible refine wpList_isOp (.box 34 (.tmp 1)) rfl ?_); refine wpList_boxing _ w1 rfl 34 (.tmp 1) rfl (faC f) H rfl (by exact HR.out.sz) (by exact HR.out.al) ?_)
      refine (awake_any _).mono ?_
      rintro e w2 ⟨rfl, hc2⟩
      have HC2 := Lib.hid (HR.out.ch.trans hc2)
      clear hc2
      go_wp2
      go_ret
      exact ⟨rfl, HC2.out⟩
    · have q2 : n ≤ 40 := by omega
      by_cases q3 : f.pl < 0
      · clear hbig
        go_enter Try.func6, Try.ntmps6
        go_wp2_with ((with_reducible refine wpList_isOp (.box 34 (.tmp 1)) rfl ?_); refine wpList_boxing _ w1 rfl 34 (.tmp 1) rfl (faC f) H rfl (by exact HR.out.sz) (by exact HR.out.al) ?_)
        refine (awake_any _).mono ?_
        rintro e w2 ⟨rfl, hc2⟩
        have HC2 := Lib.hid (HR.out.ch.trans hc2)
        have y1 : w2.cell? ⟨H, 1, none⟩ = some (.int .i64 f.pl) := hc2.cell x1 (fun f => f)
        clear hc2
        go_wp2
        go_ret
        exact ⟨rfl, HC2.out⟩
      · have q4 : 0 ≤ f.pl := by omega
        have q5 : 19 < f.pl := by omega
        clear hbig
        go_enter Try.func6, Try.ntmps6
        go_wp2_with ((with_reducible refine wpList_isOp (.box 34 (.tmp 1)) rfl ?_); refine wpList_boxing _ w1 rfl 34 (.tmp 1) rfl (faC f) H rfl (by exact HR.out.sz) (by exact HR.out.al) ?_)
        refine (awake_any _).mono ?_
        rintro e w2 ⟨rfl, hc2⟩
        have HC2 := Lib.hid (HR.out.ch.trans hc2)
        have y1 : w2.cell? ⟨H, 1, none⟩ = some (.int .i64 f.pl) := hc2.cell x1 (fun f => f)
        clear hc2
        go_wp2
        go_ret
        exact ⟨rfl, HC2.out⟩
  obtain ⟨kk, hkk⟩ : ∃ kk : Nat, f.pl = (kk : Int) := ⟨f.pl.toNat, by omega⟩
  have hk20 : kk < 20 := by omega
  have hn40 : n ≤ 40 := by omega
  have p0 : (0 : Int) ≤ f.pl := by omega
  have p1 : f.pl ≤ 19 := by omega
  have HKK := Lib.hid hkk
  have HK20 := Lib.hid hk20
  clear hbig hn63 hkk hk20
  go_enter Try.func6, Try.ntmps6
  go_wp2_with ((with_reducible refine wpList_isOp (.box 34 (.tmp 1)) rfl ?_); refine wpList_boxing _ w1 rfl 34 (.tmp 1) rfl (faC f) H rfl (by exact HR.out.sz) (by exact HR.out.al) ?_)
  refine (awake_any _).mono ?_
  rintro e w2 ⟨rfl, hc2⟩
  have HC2 := Lib.hid (HR.out.ch.trans hc2)
  have HB2 := Lib.hid (fa_stays HB1.out hc2 (fun f => f))
  have y1 : w2.cell? ⟨H, 1, none⟩ = some (.int .i64 f.pl) := hc2.cell x1 (fun f => f)
  clear hc2
  go_wp2_with fail
  refine (show Calls Try.prog _ #[.int .i64 20] _ _ from Devs.newX (X := fun j => j = H) 20 w2 (by omega) (by omega) w HC2.out (fun i hi => by subst hi; exact blk_lt HB2.out)).mono ?_
  rintro e w3 ⟨B, rfl, h3, k3⟩
  have HST := Lib.hid (show RtSt w w3 H B 0 f from ⟨⟨_, h3, calm_zero, fun _ => rfl, ⟨Nat.le_refl _, Nat.le_refl _, fun _ => Nat.le_refl _⟩, fun _ => Nat.le_refl _⟩, fa_stays HB2.out k3 (fun f => f)⟩)
  clear h3 k3
  go_wp2_with fail
  go_loopw [10] (fun i wr => ∃ k : Nat, k ≤ n ∧ i = .int .i64 k ∧ Hid (RtSt w wr H B k f)) (fun i _ => n - (intOf i).toNat)
  case atStart => exact ⟨0, Nat.zero_le _, rfl, HST⟩
  case round =>
    obtain ⟨k, hk, rfl, HK⟩ := hrel
    by_cases hlt : k < n
    · obtain ⟨b0, o, rfl, hops⟩ := HO.out.at (by omega)
      obtain ⟨x, hx⟩ : ∃ x, x = F k := ⟨_, rfl⟩
      have hop0 : OpAt w b0 (o + k * 14) x := by rw [hx]; exact hops k hlt
      have hop : OpAt wr b0 (o + k * 14) x := hop0.gr HK.out.ch
      have HLD := Lib.hid hop.load
      have HOK := Lib.hid hop.ok
      have HQ := Lib.hid hop0.keep
      have c0 := hop.c0
      have i1 : (0 : Int) ≤ (k : Int) := Int.natCast_nonneg _
      have i2 : (k : Int) < (n : Int) := by omega
      clear hop hop0 hops hx
      by_cases k3 : x.kd < 2
      · have HDO := Lib.hid (HK.out.does HOK.out (by omega) HQ.out k3)
        go_wp2_with ((with_reducible refine wpList_isOp (.load 37 (.tmp 65)) rfl ?_); refine wpList_loading _ rfl 37 (.tmp 65) rfl (.agg (opC x)) ⟨b0, o + k * 14, none⟩ (by simp [Act.eval]) (by exact HLD.out) ?_)
        refine HDO.out.mono ?_
        rintro e w6 ⟨v, rfl, h6⟩
        have HN := Lib.hid h6
        clear h6
        go_wp2
        go_roundw
        case rel => exact ⟨k + 1, by omega, by go_num, HN⟩
        case measure => simp [intOf]; omega
      · have HN := Lib.hid (HK.out.more (t' := k + 1) (by omega))
        go_wp2
        go_roundw
        case rel => exact ⟨k + 1, by omega, by go_num, HN⟩
        case measure => simp [intOf]; omega
    · obtain rfl : k = n := by omega
      obtain ⟨d, hd, hu, hlo, hl, hm⟩ := HK.out.dev
      have HU := Lib.hid hu
      have HLO := Lib.hid hlo
      have HL := Lib.hid (hl.up (t' := 40) (by omega))
      have HM := Lib.hid (show LimM d 40 from fun a => Nat.le_trans (hm a) hn40)
      have HB3 := Lib.hid HK.out.fa
      have HCA := Lib.hid (hd.copyN (i := 0) (by omega) rfl rfl HL.out HM.out (by omega))
      clear hd hu hlo hl hm HK hk
      go_wp2_with fail
      refine HCA.out.mono ?_
      rintro e w4 ⟨b1, rfl, h4, k4⟩
      have HB4 := Lib.hid (fa_stays HB3.out k4 (fun f => f))
      have y4 : w4.cell? ⟨H, 1, none⟩ = some (.int .i64 f.pl) := blk_cell HB4.out
      have HRD := Lib.hid (h4.readN (a := f.pl) (i := 0) (b := B) (E := d) (by omega) (by simp [up]) (by simp [up]) HL.out (by omega))
      have HOP := Lib.hid (show openE d f.pl = 0 by rw [HKK.out]; exact HU.out.open' HK20.out)
      have hre : readE d f.pl = 0 := by unfold readE; rw [if_pos HOP.out, HLO.out, Bool.and_false]; rfl
      have hrl : readL d f.pl = 256 := by unfold readL; rw [if_pos hre]
      rw [hre, hrl] at HRD
      have HRE := Lib.hid (And.intro hre hrl)
      clear h4 k4 HCA HB3 hre
      go_wp2_with fail
      refine HRD.out.mono ?_
      rintro e w5 ⟨Aw, Cw, rfl, rw5⟩
      have HB5 := Lib.hid (fa_stays HB4.out rw5.ch (fun q => q.2 rfl))
      have y51 : w5.cell? ⟨H, 1, none⟩ = some (.int .i64 f.pl) := blk_cell HB5.out
      have y52 : w5.cell? ⟨H, 2, none⟩ = some (.int .i64 f.off) := blk_cell HB5.out
      have hrow := rw5.row
      rw [hrl] at hrow
      have HROW := Lib.hid hrow
      obtain ⟨wz, w6, H2, hV⟩ := faV w5 (rotF f)
      have HV := Lib.hid hV
      have hdx := rw5.devX
      rw [hrl] at hdx
      obtain ⟨X2, hX2⟩ : ∃ X2 : Nat → Prop, X2 = fun j => (j = H ∨ (Value.slice Aw 256 Cw).ownBlock = some j) ∨ j = H2 := ⟨_, rfl⟩
      have hd6 := hdx.fresh (X' := X2) hV.ch (fun i hi => by
        rw [hX2] at hi
        rcases hi with hi | hi
        · exact Or.inl hi
        · subst hi
          exact Or.inr ⟨Nat.le_of_eq hV.sz, blk_lt hV.cx⟩)
      have HXH := Lib.hid (show X2 H by rw [hX2]; exact Or.inl (Or.inl rfl))
      have HXW := Lib.hid (show ∀ j, (Value.slice Aw 256 Cw).ownBlock = some j → X2 j by rw [hX2]; exact fun j hj => Or.inl (Or.inr hj))
      have HX2 := Lib.hid (show X2 H2 by rw [hX2]; exact Or.inr rfl)
      have T6 := Lib.hid (show Two w X2 B b1 (readD d f.pl) d w6 from ⟨_, _, hd6, by simp [up], by simp [up], by simp [up], by simp [up]⟩)
      have HB6 := Lib.hid (fa_stays HB5.out hV.ch (fun f => f))
      have HR6 := Lib.hid (HROW.out.gr hV.ch)
      -- the devices, one behind the other
      obtain ⟨E1, hE1⟩ : ∃ E1, E1 = readD d f.pl := ⟨_, rfl⟩
      have hc1 : Calm E1 := by rw [hE1]; exact calm_read HU.out
      have hl1 : E1.lost kk = false := by rw [hE1, lost_read]; exact HLO.out kk
      have hz1 : readZ E1 f.pl = readZ d f.pl := by rw [hE1, readZ_read]
      have L1 : Lim E1 41 := by rw [hE1]; exact lim_read HL.out
      have M1 : LimM E1 41 := by rw [hE1]; exact fun a => Nat.le_trans (limM_read HM.out a) (by omega)
      rw [← hE1] at T6
      have hpr : 0 ≤ (rotF f).pl ∧ (rotF f).pl < 20 := ⟨p0, by show f.pl < 20; omega⟩
      obtain ⟨r1, r2, r3, r4⟩ := rot_twice (f := rotF f) hc1 hl1 HKK.out HK20.out
      obtain ⟨n1, m1⟩ := (near_fault E1 (rotF f)).lim L1 M1
      obtain ⟨g1, g2⟩ := (fault_is hc1 hpr).1 rfl
      rw [g1] at n1 m1
      obtain ⟨E2, hE2⟩ : ∃ E2, E2 = rotD E1 (rotF f) := ⟨_, rfl⟩
      rw [← hE2] at r1 r2 r3 r4 n1 m1 g1
      obtain ⟨n2, m2⟩ := (near_fault E2 (rotF f)).lim n1 m1
      obtain ⟨g3, g4⟩ := (fault_is r2 hpr).1 rfl
      rw [g3] at n2 m2
      obtain ⟨E3, hE3⟩ : ∃ E3, E3 = rotD E2 (rotF f) := ⟨_, rfl⟩
      rw [← hE3] at r1 r3 r4 n2 m2 g3
      rw [← HKK.out] at r3 r4
      have e3L : readL E3 f.pl = 256 := by unfold readL; rw [if_pos r3]
      have HZ3 := Lib.hid (r4.trans hz1)
      obtain ⟨E4, hE4⟩ : ∃ E4, E4 = readD E3 f.pl := ⟨_, rfl⟩
      have hc4 : Calm E4 := by rw [hE4]; exact calm_read r1
      have n4 : Lim E4 44 := by rw [hE4]; exact lim_read n2
      have m4 : LimM E4 44 := by rw [hE4]; exact fun a => Nat.le_trans (limM_read m2 a) (by omega)
      have hpl : 0 ≤ (loseF f).pl ∧ (loseF f).pl < 20 := hpr
      obtain ⟨n5, m5⟩ := (near_fault E4 (loseF f)).lim n4 m4
      obtain ⟨g5, g6⟩ := (fault_is hc4 hpl).2 rfl
      rw [g5] at n5 m5
      obtain ⟨E5, hE5⟩ : ∃ E5, E5 = loseD E4 (loseF f).pl.toNat := ⟨_, rfl⟩
      rw [← hE5] at n5 m5 g5
      have hl5 := lose_read (k := kk) hc4 HK20.out
      rw [show kk = (loseF f).pl.toNat by show kk = f.pl.toNat; have := HKK.out; omega, ← hE5] at hl5
      have e5E : readE E5 f.pl = 20 := by have := hl5.2; rwa [show (((loseF f).pl.toNat : Nat) : Int) = f.pl by show ((f.pl.toNat : Nat) : Int) = f.pl; omega] at this
      have e5L : readL E5 f.pl = 0 := by unfold readL; rw [e5E]; rfl
      obtain ⟨E6, hE6⟩ : ∃ E6, E6 = readD E5 f.pl := ⟨_, rfl⟩
      have hc6 : Calm E6 := by rw [hE6]; exact calm_read hl5.1
      have n6 : Lim E6 46 := by rw [hE6]; exact lim_read n5
      have m6 : LimM E6 46 := by rw [hE6]; exact fun a => Nat.le_trans (limM_read m5 a) (by omega)
      obtain ⟨n7, m7⟩ := (near_write E6 f.pl 256 (fun _ => b)).lim n6 m6
      have hag := again_has (b := b) hc6 HK20.out
      rw [← HKK.out] at hag
      obtain ⟨E7, hE7⟩ : ∃ E7, E7 = writeD E6 f.pl 256 (fun _ => b) := ⟨_, rfl⟩
      rw [← hE7] at n7 m7 hag
      obtain ⟨n8, m8⟩ := (near_flush E7).lim n7 m7
      obtain ⟨E8, hE8⟩ : ∃ E8, E8 = flushD E7 := ⟨_, rfl⟩
      rw [← hE8] at n8 m8 hag
      have F1 := Lib.hid (T6.out.fault (rotF_ok HFOK.out) L1 M1 (by omega))
      rw [g1, g2] at F1
      have HN1 := Lib.hid n1
      have HM1 := Lib.hid m1
      have HN2 := Lib.hid n2
      have HN4 := Lib.hid n4
      have HM4 := Lib.hid m4
      have HN5 := Lib.hid n5
      have HN6 := Lib.hid n6
      have HN7 := Lib.hid n7
      have HN8 := Lib.hid n8
      have G3 := Lib.hid (And.intro g3 g4)
      have G5 := Lib.hid (And.intro g5 g6)
      have E3E := Lib.hid (And.intro r3 e3L)
      have E5E := Lib.hid (And.intro e5E e5L)
      have HAG := Lib.hid hag
      have EE4 := Lib.hid hE4
      have EE6 := Lib.hid hE6
      have EE7 := Lib.hid hE7
      have EE8 := Lib.hid hE8
      clear hrow hdx hd6 hX2 hV rw5 hc1 hl1 hz1 L1 M1 hpr r1 r2 r3 r4 n1 m1 g1 g2 n2 m2 g3 g4 e3L hc4 n4 m4 hpl n5 m5 g5 g6 hl5 e5E e5L hc6 n6 m6 n7 m7 hag n8 m8 hE1 hE2 hE3 hE4 hE5 hE6 hE7 hE8 T6 HRD
      go_wp2_with (first
        | ((with_reducible refine wpList_isOp (.load 32 (.tmp 81)) rfl ?_); refine wpList_loading _ rfl 32 (.tmp 81) rfl (.agg (maskC f)) ⟨H, 5, none⟩ (by simp [Act.eval]) (by exact load_mask HB5.out) ?_)
        | ((with_reducible refine wpList_isOp (.build 34 #[(0, .const (.int .i64 1)), (1, .tmp 78), (2, .tmp 80), (5, .tmp 82)]) rfl ?_); refine wpList_building4 _ rfl 34 0 1 2 5 _ _ _ _ rfl (.int .i64 1) (.int .i64 f.pl) (.int .i64 f.off) (.agg (maskC f)) (.agg (faC (rotF f))) rfl rfl rfl rfl (by exact built_rot f _) ?_)
        | ((with_reducible refine wpList_isOp (.alloc 34) rfl ?_); refine wpList_making _ wz rfl 34 rfl (faC ⟨0, 0, 0, 0, 0, 0, 0, 0, 0⟩) H2 (by exact zero_fa _) (by exact HV.out.sz) (by exact HV.out.al) ?_)
        | ((with_reducible refine wpList_isOp (.store 34 (.tmp 14) (.tmp 83)) rfl ?_); refine wpList_storing _ w6 rfl 34 (.tmp 14) (.tmp 83) rfl (.agg (faC (rotF f))) ⟨H2, 0, none⟩ (by simp [Act.eval, Act.put]) (by simp [Act.eval, Act.put]) (by exact HV.out.st) ?_)
        | ((with_reducible refine wpList_isOp (.load 34 (.tmp 14)) rfl ?_); refine wpList_loading _ rfl 34 (.tmp 14) rfl (.agg (faC (rotF f))) ⟨H2, 0, none⟩ (by simp [Act.eval]) (by exact load_fa HV.out.cx) ?_))
      refine F1.out.mono ?_
      rintro e w7 ⟨rfl, t7, k7⟩
      have HB7 := Lib.hid (fa_stays HB6.out k7 (fun q => q.2 HXH.out))
      have HV7 := Lib.hid (fa_stays (f := rotF f) HV.out.cx k7 (fun q => q.2 HX2.out))
      have HR7 := Lib.hid (HR6.out.keep k7 (fun j hj q => q.2 (HXW.out j hj)))
      have F2 := Lib.hid (t7.fault (rotF_ok HFOK.out) HN1.out HM1.out (by omega))
      rw [G3.out.1, G3.out.2] at F2
      clear t7 k7 F1 HB6 HR6 HV HN1 HM1 G3
      go_wp2_with ((with_reducible refine wpList_isOp (.load 34 (.tmp 14)) rfl ?_); refine wpList_loading _ rfl 34 (.tmp 14) rfl (.agg (faC (rotF f))) ⟨H2, 0, none⟩ (by simp [Act.eval]) (by exact load_fa HV7.out) ?_)
      refine F2.out.mono ?_
      rintro e w8 ⟨rfl, t8, k8⟩
      have HB8 := Lib.hid (fa_stays HB7.out k8 (fun q => q.2 HXH.out))
      have HR8 := Lib.hid (HR7.out.keep k8 (fun j hj q => q.2 (HXW.out j hj)))
      have y81 : w8.cell? ⟨H, 1, none⟩ = some (.int .i64 f.pl) := blk_cell HB8.out
      have R3 := Lib.hid (t8.read (a := f.pl) HN2.out (by omega))
      rw [E3E.out.1, E3E.out.2, ← EE4.out] at R3
      clear t8 k8 F2 HB7 HR7 HV7 HN2 E3E
      go_wp2_with fail
      refine R3.out.mono ?_
      rintro e w9 ⟨An, Cn, rfl, row9, t9, k9⟩
      have HB9 := Lib.hid (fa_stays HB8.out k9 (fun q => q.2 HXH.out))
      have HR9 := Lib.hid (HR8.out.keep k9 (fun j hj q => q.2 (HXW.out j hj)))
      have HT9 := Lib.hid t9
      have HSM := Lib.hid (same_any _ _ _ _ _ _ _ _ w9 HR9.out row9)
      rw [eqB_yes rfl (fun c _ => by rw [HZ3.out])] at HSM
      clear row9 t9 k9 R3 HB8 HR8 y81
      go_wp2_with fail
      refine HSM.out.mono ?_
      rintro e w10 ⟨rfl, n9, rfl⟩
      have kd := (Ch.refl (fun _ => False) w9).drewN n9
      have HB10 := Lib.hid (fa_stays HB9.out kd (fun f => f))
      have HR10 := Lib.hid (HR9.out.gr kd)
      have y10 : (w9.drewN n9).cell? ⟨H, 1, none⟩ = some (.int .i64 f.pl) := blk_cell HB10.out
      have F5 := Lib.hid ((HT9.out.gr kd).fault (loseF_ok HFOK.out) HN4.out HM4.out (by omega))
      rw [G5.out.1, G5.out.2] at F5
      clear kd HSM HT9 HB9 HR9 HN4 HM4 G5
      go_wp2_with ((with_reducible refine wpList_isOp (.build 34 #[(0, .const (.int .i64 3)), (1, .tmp 102)]) rfl ?_); refine wpList_building2 _ rfl 34 0 1 _ _ rfl (.int .i64 3) (.int .i64 f.pl) (.agg (faC (loseF f))) rfl rfl (by exact built_lose f _) ?_)
      refine F5.out.mono ?_
      rintro e w11 ⟨rfl, t11, k11⟩
      have HB11 := Lib.hid (fa_stays HB10.out k11 (fun q => q.2 HXH.out))
      have HR11 := Lib.hid (HR10.out.keep k11 (fun j hj q => q.2 (HXW.out j hj)))
      have y11 : w11.cell? ⟨H, 1, none⟩ = some (.int .i64 f.pl) := blk_cell HB11.out
      have R5 := Lib.hid (t11.read (a := f.pl) HN5.out (by omega))
      rw [E5E.out.1, E5E.out.2, ← EE6.out] at R5
      clear t11 k11 F5 HB10 HR10 y10 HN5 E5E
      go_wp2_with fail
      refine R5.out.mono ?_
      rintro e w12 ⟨A5, C5, rfl, _, t12, k12⟩
      have HB12 := Lib.hid (fa_stays HB11.out k12 (fun q => q.2 HXH.out))
      have HR12 := Lib.hid (HR11.out.keep k12 (fun j hj q => q.2 (HXW.out j hj)))
      have y12 : w12.cell? ⟨H, 1, none⟩ = some (.int .i64 f.pl) := blk_cell HB12.out
      have HT12 := Lib.hid t12
      clear t12 k12 R5 HB11 HR11 y11
      have HWR : Hid (∀ ba wa, wa.rowIs ba /-t-/5 256 (fun i => .int .u8 (((fun _ => b) i : Nat) : Int)) → w12.heap.size ≤ ba → Ch (fun _ => False) w12 wa → Calls Try.prog 15 #[.pointer (some ⟨B, 0, none⟩), .int .i64 f.pl, .slice (some ⟨ba, 0, none⟩) 256 256] wa fun en w' => en = .returned (.int .i64 (writeE E6 f.pl 256)) ∧ Two w X2 B b1 E7 d w' ∧ Ch (fun x => w.heap.size ≤ x ∧ ¬ X2 x) wa w') := fun ba wa q1 q2 q3 => by
        have := HT12.out.write (a := f.pl) q1 hb q2 q3 HN6.out (by omega)
        rwa [← EE7.out] at this
      clear HT12
      go_wp2
      go_region_held3 (fun w' => w'.cell? ⟨H, 1, none⟩ = some (.int .i64 f.pl)) (first | go_keep | exact ka | exact kc)
        (first
          | (go_at_call 16; refine (sector_any b hb _).mono ?_; rintro e wa ⟨ba, rfl, ha, hba, hca⟩; have kw := (Ch.refl (fun _ => False) w12).drew.trans hca; have ka := kw.cell y12 (fun f => f))
          | (go_at_call 15; refine (HWR.out ba wa ha hba kw).mono ?_; rintro e w14 ⟨rfl, t14, k14⟩; have kc := k14.cell ka (fun q => q.2 HXH.out)))
      all_goals
        have HB14 := Lib.hid (fa_stays (fa_stays HB12.out kw (fun f => f)) k14 (fun q => q.2 HXH.out))
        have HR14 := Lib.hid ((HR12.out.gr kw).keep k14 (fun j hj q => q.2 (HXW.out j hj)))
        have F7 := Lib.hid (t14.flush HN7.out (by omega))
        rw [← EE8.out] at F7
        clear kw ka kc hca hba ha t14 k14 HWR HB12 HR12 y12 HN6 HN7
        go_wp2_with fail
        refine F7.out.mono ?_
        rintro e w15 ⟨rfl, t15, k15⟩
        have HB15 := Lib.hid (fa_stays HB14.out k15 (fun q => q.2 HXH.out))
        have HR15 := Lib.hid (HR14.out.keep k15 (fun j hj q => q.2 (HXW.out j hj)))
        have y15 : w15.cell? ⟨H, 1, none⟩ = some (.int .i64 f.pl) := blk_cell HB15.out
        have HH := Lib.hid (t15.has (a := f.pl) hb HN8.out (by omega))
        rw [HAG.out] at HH
        clear t15 k15 F7 HB14 HR14 HN8 HAG
        go_wp2_with fail
        refine HH.out.mono ?_
        rintro e w16 ⟨rfl, t16, k16⟩
        have HB16 := Lib.hid (fa_stays HB15.out k16 (fun q => q.2 HXH.out))
        have HR16 := Lib.hid (HR15.out.keep k16 (fun j hj q => q.2 (HXW.out j hj)))
        have y16 : w16.cell? ⟨H, 1, none⟩ = some (.int .i64 f.pl) := blk_cell HB16.out
        have HRC := Lib.hid (t16.readC (a := f.pl) HL.out (by omega))
        rw [HRE.out.1, HRE.out.2] at HRC
        clear t16 k16 HH HB15 HR15 y15 HRE
        go_wp2_with fail
        refine HRC.out.mono ?_
        rintro e w17 ⟨Ac, Cc, rfl, row17, t17, k17⟩
        have HB17 := Lib.hid (fa_stays HB16.out k17 (fun q => q.2 HXH.out))
        have HR17 := Lib.hid (HR16.out.keep k17 (fun j hj q => q.2 (HXW.out j hj)))
        have HSM := Lib.hid (same_any _ _ _ _ _ _ _ _ w17 row17 HR17.out)
        rw [eqB_yes rfl (fun c _ => rfl)] at HSM
        have HE := Lib.hid t17.ch
        clear row17 t17 k17 HRC HB16 HR16 y16
        go_wp2_with fail
        refine HSM.out.mono ?_
        rintro e w18 ⟨rfl, n18, rfl⟩
        have y18 : (w17.drewN n18).cell? ⟨H, 2, none⟩ = some (.int .i64 f.off) := blk_cell (show (w17.drewN n18).heap[H]? = _ from HB17.out)
        have HE18 := Lib.hid (HE.out.drewN n18)
        clear HSM HE HB17 HR17
        by_cases q1 : 0 ≤ f.off
        · by_cases q2 : f.off < 256
          · have e1 : rotE (rotF f) = 0 := by unfold rotE; rw [if_neg]; show ¬ (f.off < 0 ∨ 256 ≤ f.off); omega
            rw [e1]
            clear e1
            go_wp2
            go_ret
            exact ⟨rfl, HE18.out⟩
          · have e1 : rotE (rotF f) = 1 := by unfold rotE; rw [if_pos]; show (f.off < 0 ∨ 256 ≤ f.off); omega
            rw [e1]
            clear e1
            go_wp2
            go_ret
            exact ⟨ret_bool (by simp; omega), HE18.out⟩
        · have e1 : rotE (rotF f) = 1 := by unfold rotE; rw [if_pos]; show (f.off < 0 ∨ 256 ≤ f.off); omega
          rw [e1]
          clear e1
          go_wp2
          go_ret
          exact ⟨rfl, HE18.out⟩
theorem diskRots_of (v : Value) (f : Fa) (b : Int) (w : World) {n : Nat} {F : Nat → OpD} (h : RowO w v n F) (hf : FaOk f) (hb : 0 ≤ b ∧ b < 256) : Calls Try.prog 6 #[v, .agg (faC f), .int .u8 b] w (Told w) := by
  obtain ⟨A, C, rfl, _⟩ := id h
  obtain ⟨c, rfl⟩ : ∃ c : Nat, b = (c : Int) := ⟨b.toNat, by omega⟩
  exact diskRots_any A n C F f c w h hf (by omega)
/-- A fault that is handed in. -/
theorem open_fault {H : Type} {enc : TypeId × Value → H} {W : World} {v : Value} {d : DataW H} {p : List MemPlace} {b0 : Nat} {r : Reach} (hv : Value.okWide Try.prog W r b0 34 v) (h : DataW.Trod enc Try.prog W 0 (fun _ => true) true 34 v d p) : ∃ f, FaOk f ∧ v = .agg (faC f) := by
  obtain ⟨cs, rfl, _⟩ := Go.WideShapes.okWide_struct Try.underlying34 hv
  obtain ⟨fuel, hf⟩ := h
  obtain ⟨f, h1, h2⟩ := fault_of (cs := cs.toList) hf
  exact ⟨f, h1, congrArg Value.agg (Array.ext' h2)⟩
#print axioms diskRots_of
end Go.Proofs.Ytkbhpkpacojpcaa
