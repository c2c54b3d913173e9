/-
  The ring's write, walked: a piece, put in both mirrors. (Laid by tools/gen_rinp.py out of tools/rinp.head.).
-/
import Derived.Test.YteleknojohnlbaaGreatMc34
import Derived.Test.YteleknojohnlbaaGreatMc30
namespace Go.Proofs.YteleknojohnlbaaGreat
open Go.RowKit
set_option linter.unusedVariables false
set_option maxRecDepth 100000
set_option linter.unusedSimpArgs false
def pcOf (x : Rg) (ix ofn : Int) (B : List Nat) : Pn := ⟨x.next, x.ep, x.fr, x.chain, ix, ofn, B⟩
def putR (x : Rg) (q : Pn) (mir : Nat) : PutP := ⟨addrR x.g (mir : Int) (q.seq % x.g.wal), 256, sectR x.vol x.g (mir : Int) q⟩
def wrD (x : Rg) (q : Pn) (d : Dev) : Dev := (allTo (putR x q) d 2).d
def wrE (x : Rg) (q : Pn) (d : Dev) : Int := (allTo (putR x q) d 2).e
def nxR (x : Rg) (q : Pn) (e : Int) : Rg := if e = 0 then { x with next := x.next + 1, chain := sumR x.vol x.g q } else x
theorem rok_mirs {vol : Int} {g : Ge} {q : Pn} (h : rokB vol g 0 q = true) {k : Nat} (hk : k < 2) : rokB vol g (k : Int) q = true := by
  obtain ⟨h1, h2, _, h4⟩ := rokB_iff.1 h
  exact rokB_iff.2 ⟨h1, h2, ⟨by omega, by omega⟩, h4⟩
structure HoldW (R H : Nat) (x : Rg) (q : Pn) (V : Value) (w : World) : Prop where
  c1 : w.cell? ⟨R, 1, none⟩ = some (.int .i64 x.vol)
  c2 : w.cell? ⟨R, 2, none⟩ = some (.int .i64 x.g.wal)
  c3 : w.cell? ⟨R, 3, none⟩ = some (.int .i64 x.g.st)
  c4 : w.cell? ⟨R, 4, none⟩ = some (.int .i64 x.g.k)
  c5 : w.cell? ⟨R, 5, none⟩ = some (.int .i64 x.g.m)
  pc : w.heap[H]? = some (.cells (pcC q V) 26 (0, 0))
theorem HoldW.mk' {R H : Nat} {x : Rg} {q : Pn} {V : Value} {w : World} (h : RgIs w R x) (k : w.heap[H]? = some (.cells (pcC q V) 26 (0, 0))) : HoldW R H x q V w := ⟨blk_cell h, blk_cell h, blk_cell h, blk_cell h, blk_cell h, k⟩
theorem HoldW.gr {R H : Nat} {x : Rg} {q : Pn} {V : Value} {w w' : World} (h : HoldW R H x q V w) (k : Ch (fun _ => False) w w') : HoldW R H x q V w' :=
  ⟨k.cell h.c1 (fun f => f), k.cell h.c2 (fun f => f), k.cell h.c3 (fun f => f), k.cell h.c4 (fun f => f), k.cell h.c5 (fun f => f), (k.block H (blk_lt h.pc) (fun f => f)).trans h.pc⟩
theorem RgIs.gr {w w' : World} {R : Nat} {x : Rg} (h : RgIs w R x) (k : Ch (fun _ => False) w w') : RgIs w' R x := (k.block R (blk_lt (o := .cells (rgC x) 109 (0, 0)) h) (fun f => f)).trans h
theorem RgIs.off {S : Nat → Prop} {w w' : World} {R : Nat} {x : Rg} (h : RgIs w R x) (k : Ch S w w') (hS : ¬ S R) : RgIs w' R x := (k.block R (blk_lt (o := .cells (rgC x) 109 (0, 0)) h) hS).trans h
theorem built_pcs (a b c d e f : Int) (A : Option Addr) (n C : Nat) (q : Pn) (hq : q = ⟨a, b, c, d, e, f, q.B⟩) (w : World) : (Instr.build 26 #[(0, .int .i64 a), (1, .int .i64 b), (2, .int .i64 c), (3, .int .i64 d), (4, .int .i64 e), (5, .int .i64 f), (6, .slice A n C)]).run Tryz.prog w = .ok (.agg (pcC q (.slice A n C))) w := by
  rw [show pcC q (.slice A n C) = #[.int .i64 a, .int .i64 b, .int .i64 c, .int .i64 d, .int .i64 e, .int .i64 f, .slice A n C] by rw [hq]; rfl]
  exact run_build w _ _ _ (by kernel_rfl)
theorem built_put (a : Int) (A : Option Addr) (n C : Nat) (w : World) : (Instr.build 164 #[(0, .int .i64 a), (1, .slice A n C)]).run Tryz.prog w = .ok (.agg #[.int .i64 a, .slice A n C]) w := run_build w _ _ _ (by kernel_rfl)
theorem exec_pc {o : Oper} {a : Act} {w : World} (A : Option Addr) (n C : Nat) (q : Pn) {v0 v1 v2 v3 v4 v5 : Int} (ho : o.op = .build 26 #[(0, .tmp 18), (1, .tmp 22), (2, .tmp 26), (3, .tmp 30), (4, .tmp 31), (5, .tmp 32), (6, .tmp 33)]) (hq : q = ⟨v0, v1, v2, v3, v4, v5, q.B⟩)
    (h0 : a.eval (.tmp 18) = .int .i64 v0) (h1 : a.eval (.tmp 22) = .int .i64 v1) (h2 : a.eval (.tmp 26) = .int .i64 v2) (h3 : a.eval (.tmp 30) = .int .i64 v3) (h4 : a.eval (.tmp 31) = .int .i64 v4) (h5 : a.eval (.tmp 32) = .int .i64 v5) (h6 : a.eval (.tmp 33) = .slice A n C) :
    (execOp a.eval o).run Tryz.prog w = .ok (.value (.agg (pcC q (.slice A n C)))) w := by
  refine exec_build _ _ ho _ ?_
  rw [show ((#[(0, .tmp 18), (1, .tmp 22), (2, .tmp 26), (3, .tmp 30), (4, .tmp 31), (5, .tmp 32), (6, .tmp 33)] : Array (Nat × Operand)).map fun (i, x) => (i, a.eval x)) = #[(0, .int .i64 v0), (1, .int .i64 v1), (2, .int .i64 v2), (3, .int .i64 v3), (4, .int .i64 v4), (5, .int .i64 v5), (6, .slice A n C)] by simp [h0, h1, h2, h3, h4, h5, h6]]
  exact built_pcs _ _ _ _ _ _ _ _ _ q hq w
theorem exec_put {o : Oper} {a : Act} {w : World} (A : Option Addr) (n C : Nat) {v : Int} (ho : o.op = .build 164 #[(0, .tmp 69), (1, .tmp 70)]) (h0 : a.eval (.tmp 69) = .int .i64 v) (h1 : a.eval (.tmp 70) = .slice A n C) :
    (execOp a.eval o).run Tryz.prog w = .ok (.value (.agg #[.int .i64 v, .slice A n C])) w := by
  refine exec_build _ _ ho _ ?_
  rw [show ((#[(0, .tmp 69), (1, .tmp 70)] : Array (Nat × Operand)).map fun (i, x) => (i, a.eval x)) = #[(0, .int .i64 v), (1, .slice A n C)] by simp [h0, h1]]
  exact built_put _ _ _ _ w
theorem store_int {w : World} {R i : Nat} {c : Array Value} {t : TypeId} {u : Int} (h : w.heap[R]? = some (.cells c t (0, 0))) (hi : c[i]? = some (.int .i64 u)) (v : Int) : (storeVar /-t-/3 ⟨R, i, none⟩ (.int .i64 v)).run Tryz.prog w = .ok () (w.setCell ⟨R, i, none⟩ (.int .i64 v)) := by
  have c1 : w.cell? ⟨R, i, none⟩ = some (.int .i64 u) := (blk_cell h).trans hi
  have f1 : w.frozen? ⟨R, i, none⟩ = false := blk_frozen h
  clear h hi
  go_simp
def WrPost (base : Nat) (p : Ph) (d : Dev) (R : Nat) (x : Rg) (q : Pn) (w : World) (e : Ending) (w' : World) : Prop :=
  e = .returned (.int .i64 (wrE x q d)) ∧ RgIs w' R (nxR x q (wrE x q d)) ∧ ∃ p', p'.B = p.B ∧ DevIs base w' p' (wrD x q d) ∧ (∀ i, Foot p' (wrD x q d) i → Foot p d i ∨ w.heap.size ≤ i) ∧ Ch (fun i => Foot p d i ∨ i = R) w w'
set_option maxHeartbeats 12800000 in
theorem rwrite_any (base : Nat) (p : Ph) (d : Dev) (R : Nat) (x : Rg) (ix ofn : Int) (q : Pn) (A : Option Addr) (n C t : Nat) (w : World) (h : DevIs base w p d) (hr : RgIs w R x) (hxd : x.d = p.B) (hRf : ¬ Foot p d R) (hq : q = pcOf x ix ofn q.B) (hn : n = q.B.length)
    (hrok : rokB x.vol x.g 0 q = true) (hp : PcIs w q (.slice A n C)) (hoff : Off (fun i => Foot p d i ∨ i = R) (.slice A n C)) (hl : Lim d t) (hm : LimM d t) (ht : t + 26 ≤ 990000) :
    Calls Tryz.prog 68 #[.pointer (some ⟨R, 0, none⟩), .slice A n C, .int .i64 ix, .int .i64 ofn] w (WrPost base p d R x q w) := by
  obtain ⟨wd, hwd⟩ : ∃ wd, wd = w.drew := ⟨_, rfl⟩
  have hcd : Ch (fun _ => False) w wd := by rw [hwd]; exact (Ch.refl _ w).drew
  obtain ⟨wz, w1, H, hV⟩ := varPc q (V := .slice A n C) ⟨_, _, _, rfl⟩ wd
  have HSR := Lib.hid (hr.gr hcd)
  have HSZ : Hid (RgIs wz R x) := Lib.hid (by rw [← hV.al]; exact (hr.gr hcd).gr ((Ch.refl _ wd).alloc _ _))
  have HSX := Lib.hid ((hr.gr hcd).gr hV.ch)
  have HWD := Lib.hid hwd
  have HQ := Lib.hid (show q = ⟨x.next, x.ep, x.fr, x.chain, ix, ofn, q.B⟩ from hq)
  have HC1 := Lib.hid (hcd.trans hV.ch)
  have HBASE : Hid (HoldW R H x q (.slice A n C) w1) := Lib.hid (HoldW.mk' HSX.out hV.cx)
  have HHW := Lib.hid (show w.heap.size ≤ H by have := hcd.size; have := hV.sz; omega)
  have HV := Lib.hid hV
  have HDV := Lib.hid h
  have HRF := Lib.hid hRf
  have HXD := Lib.hid hxd
  have HROK := Lib.hid hrok
  have HPC := Lib.hid hp
  have HOFF := Lib.hid hoff
  have HPL := Lib.hid (And.intro hl (And.intro hm ht))
  have HVO := Lib.hid (show N64 x.vol by have := (rokB_iff.1 hrok).2.2.2; exact ⟨by omega, by omega⟩)
  have HGM := Lib.hid (rokB_iff.1 hrok).2.1
  have HMP := Lib.hid (mayP_iff.1 (rokB_iff.1 hrok).1)
  have HRG := Lib.hid hr
  clear hwd hcd hV h hr hxd hRf hq hrok hp hoff hl hm ht hn
  go_enter Tryz.func68, Tryz.ntmps68
  go_upto_region 1 with fail
  refine wp_region_held (S := (fun w' => RgIs w' R x)) (by kernel_rfl) ?_
  change wpAnyH _ _ _ _ _ _ _ _ (World.drew _)
  rw [← HWD.out]
  refine wpAnyH_take (i := 0) (oi := ⟨some 15, .move (.tmp 0), _, _, _, none⟩) (v := .pointer (some ⟨R, 0, none⟩)) rfl (by kernel_rfl) (by kernel_rfl) (by kernel_rfl) (fun _ _ _ h => h) (Or.inl ⟨by rfl, fun w' hS => ?_⟩) HSR.out ?_
  · clear hS; go_simp
  simp only [Act.put, List.setIfInBounds_toArray, List.set_cons_zero, List.set_cons_succ]
  refine wpAnyH_take (i := 1) (oi := ⟨some 16, .nilCheck (.tmp 15), _, _, _, none⟩) (v := .pointer (some ⟨R, 0, none⟩)) rfl (by kernel_rfl) (by kernel_rfl) (by kernel_rfl) (fun _ _ _ h => h) (Or.inl ⟨by rfl, fun w' hS => ?_⟩) HSR.out ?_
  · clear hS; go_simp
  simp only [Act.put, List.setIfInBounds_toArray, List.set_cons_zero, List.set_cons_succ]
  refine wpAnyH_take (i := 2) (oi := ⟨some 17, .fieldAddr 109 (.tmp 16) 6, _, _, _, none⟩) (v := .pointer (some ⟨R, 9, none⟩)) rfl (by kernel_rfl) (by kernel_rfl) (by kernel_rfl) (fun _ _ _ h => h) (Or.inl ⟨by rfl, fun w' hS => ?_⟩) HSR.out ?_
  · clear hS; go_simp
  simp only [Act.put, List.setIfInBounds_toArray, List.set_cons_zero, List.set_cons_succ]
  refine wpAnyH_take (i := 3) (oi := ⟨some 18, .load 3 (.tmp 17), _, _, _, none⟩) (v := .int .i64 x.next) rfl (by kernel_rfl) (by kernel_rfl) (by kernel_rfl) (fun _ _ _ h => h) (Or.inl ⟨by rfl, fun w' hS => ?_⟩) HSR.out ?_
  · have s9 : w'.cell? ⟨R, 9, none⟩ = some (.int .i64 x.next) := blk_cell hS; clear hS; go_simp
  simp only [Act.put, List.setIfInBounds_toArray, List.set_cons_zero, List.set_cons_succ]
  refine wpAnyH_take (i := 4) (oi := ⟨some 19, .move (.tmp 0), _, _, _, none⟩) (v := .pointer (some ⟨R, 0, none⟩)) rfl (by kernel_rfl) (by kernel_rfl) (by kernel_rfl) (fun _ _ _ h => h) (Or.inl ⟨by rfl, fun w' hS => ?_⟩) HSR.out ?_
  · clear hS; go_simp
  simp only [Act.put, List.setIfInBounds_toArray, List.set_cons_zero, List.set_cons_succ]
  refine wpAnyH_take (i := 5) (oi := ⟨some 20, .nilCheck (.tmp 19), _, _, _, none⟩) (v := .pointer (some ⟨R, 0, none⟩)) rfl (by kernel_rfl) (by kernel_rfl) (by kernel_rfl) (fun _ _ _ h => h) (Or.inl ⟨by rfl, fun w' hS => ?_⟩) HSR.out ?_
  · clear hS; go_simp
  simp only [Act.put, List.setIfInBounds_toArray, List.set_cons_zero, List.set_cons_succ]
  refine wpAnyH_take (i := 6) (oi := ⟨some 21, .fieldAddr 109 (.tmp 20) 3, _, _, _, none⟩) (v := .pointer (some ⟨R, 6, none⟩)) rfl (by kernel_rfl) (by kernel_rfl) (by kernel_rfl) (fun _ _ _ h => h) (Or.inl ⟨by rfl, fun w' hS => ?_⟩) HSR.out ?_
  · clear hS; go_simp
  simp only [Act.put, List.setIfInBounds_toArray, List.set_cons_zero, List.set_cons_succ]
  refine wpAnyH_take (i := 7) (oi := ⟨some 22, .load 3 (.tmp 21), _, _, _, none⟩) (v := .int .i64 x.ep) rfl (by kernel_rfl) (by kernel_rfl) (by kernel_rfl) (fun _ _ _ h => h) (Or.inl ⟨by rfl, fun w' hS => ?_⟩) HSR.out ?_
  · have s6 : w'.cell? ⟨R, 6, none⟩ = some (.int .i64 x.ep) := blk_cell hS; clear hS; go_simp
  simp only [Act.put, List.setIfInBounds_toArray, List.set_cons_zero, List.set_cons_succ]
  refine wpAnyH_take (i := 8) (oi := ⟨some 23, .move (.tmp 0), _, _, _, none⟩) (v := .pointer (some ⟨R, 0, none⟩)) rfl (by kernel_rfl) (by kernel_rfl) (by kernel_rfl) (fun _ _ _ h => h) (Or.inl ⟨by rfl, fun w' hS => ?_⟩) HSR.out ?_
  · clear hS; go_simp
  simp only [Act.put, List.setIfInBounds_toArray, List.set_cons_zero, List.set_cons_succ]
  refine wpAnyH_take (i := 9) (oi := ⟨some 24, .nilCheck (.tmp 23), _, _, _, none⟩) (v := .pointer (some ⟨R, 0, none⟩)) rfl (by kernel_rfl) (by kernel_rfl) (by kernel_rfl) (fun _ _ _ h => h) (Or.inl ⟨by rfl, fun w' hS => ?_⟩) HSR.out ?_
  · clear hS; go_simp
  simp only [Act.put, List.setIfInBounds_toArray, List.set_cons_zero, List.set_cons_succ]
  refine wpAnyH_take (i := 10) (oi := ⟨some 25, .fieldAddr 109 (.tmp 24) 4, _, _, _, none⟩) (v := .pointer (some ⟨R, 7, none⟩)) rfl (by kernel_rfl) (by kernel_rfl) (by kernel_rfl) (fun _ _ _ h => h) (Or.inl ⟨by rfl, fun w' hS => ?_⟩) HSR.out ?_
  · clear hS; go_simp
  simp only [Act.put, List.setIfInBounds_toArray, List.set_cons_zero, List.set_cons_succ]
  refine wpAnyH_take (i := 11) (oi := ⟨some 26, .load 3 (.tmp 25), _, _, _, none⟩) (v := .int .i64 x.fr) rfl (by kernel_rfl) (by kernel_rfl) (by kernel_rfl) (fun _ _ _ h => h) (Or.inl ⟨by rfl, fun w' hS => ?_⟩) HSR.out ?_
  · have s7 : w'.cell? ⟨R, 7, none⟩ = some (.int .i64 x.fr) := blk_cell hS; clear hS; go_simp
  simp only [Act.put, List.setIfInBounds_toArray, List.set_cons_zero, List.set_cons_succ]
  refine wpAnyH_take (i := 12) (oi := ⟨some 27, .move (.tmp 0), _, _, _, none⟩) (v := .pointer (some ⟨R, 0, none⟩)) rfl (by kernel_rfl) (by kernel_rfl) (by kernel_rfl) (fun _ _ _ h => h) (Or.inl ⟨by rfl, fun w' hS => ?_⟩) HSR.out ?_
  · clear hS; go_simp
  simp only [Act.put, List.setIfInBounds_toArray, List.set_cons_zero, List.set_cons_succ]
  refine wpAnyH_take (i := 13) (oi := ⟨some 28, .nilCheck (.tmp 27), _, _, _, none⟩) (v := .pointer (some ⟨R, 0, none⟩)) rfl (by kernel_rfl) (by kernel_rfl) (by kernel_rfl) (fun _ _ _ h => h) (Or.inl ⟨by rfl, fun w' hS => ?_⟩) HSR.out ?_
  · clear hS; go_simp
  simp only [Act.put, List.setIfInBounds_toArray, List.set_cons_zero, List.set_cons_succ]
  refine wpAnyH_take (i := 14) (oi := ⟨some 29, .fieldAddr 109 (.tmp 28) 7, _, _, _, none⟩) (v := .pointer (some ⟨R, 10, none⟩)) rfl (by kernel_rfl) (by kernel_rfl) (by kernel_rfl) (fun _ _ _ h => h) (Or.inl ⟨by rfl, fun w' hS => ?_⟩) HSR.out ?_
  · clear hS; go_simp
  simp only [Act.put, List.setIfInBounds_toArray, List.set_cons_zero, List.set_cons_succ]
  refine wpAnyH_take (i := 15) (oi := ⟨some 30, .load 3 (.tmp 29), _, _, _, none⟩) (v := .int .i64 x.chain) rfl (by kernel_rfl) (by kernel_rfl) (by kernel_rfl) (fun _ _ _ h => h) (Or.inl ⟨by rfl, fun w' hS => ?_⟩) HSR.out ?_
  · have s10 : w'.cell? ⟨R, 10, none⟩ = some (.int .i64 x.chain) := blk_cell hS; clear hS; go_simp
  simp only [Act.put, List.setIfInBounds_toArray, List.set_cons_zero, List.set_cons_succ]
  refine wpAnyH_take (i := 16) (oi := ⟨some 31, .move (.tmp 2), _, _, _, none⟩) (v := .int .i64 ix) rfl (by kernel_rfl) (by kernel_rfl) (by kernel_rfl) (fun _ _ _ h => h) (Or.inl ⟨by rfl, fun w' hS => ?_⟩) HSR.out ?_
  · clear hS; go_simp
  simp only [Act.put, List.setIfInBounds_toArray, List.set_cons_zero, List.set_cons_succ]
  refine wpAnyH_take (i := 17) (oi := ⟨some 32, .move (.tmp 3), _, _, _, none⟩) (v := .int .i64 ofn) rfl (by kernel_rfl) (by kernel_rfl) (by kernel_rfl) (fun _ _ _ h => h) (Or.inl ⟨by rfl, fun w' hS => ?_⟩) HSR.out ?_
  · clear hS; go_simp
  simp only [Act.put, List.setIfInBounds_toArray, List.set_cons_zero, List.set_cons_succ]
  refine wpAnyH_take (i := 18) (oi := ⟨some 33, .move (.tmp 1), _, _, _, none⟩) (v := .slice A n C) rfl (by kernel_rfl) (by kernel_rfl) (by kernel_rfl) (fun _ _ _ h => h) (Or.inl ⟨by rfl, fun w' hS => ?_⟩) HSR.out ?_
  · clear hS; go_simp
  simp only [Act.put, List.setIfInBounds_toArray, List.set_cons_zero, List.set_cons_succ]
  refine wpAnyH_take (i := 19) (oi := ⟨some 34, .build 26 #[(0, .tmp 18), (1, .tmp 22), (2, .tmp 26), (3, .tmp 30), (4, .tmp 31), (5, .tmp 32), (6, .tmp 33)], _, _, _, none⟩) (v := .agg (pcC q (.slice A n C))) rfl (by kernel_rfl) (by kernel_rfl) (by kernel_rfl) (fun _ _ _ h => h) (Or.inl ⟨by rfl, fun w' hS => ?_⟩) HSR.out ?_
  · clear hS; exact exec_pc A n C q rfl HQ.out rfl rfl rfl rfl rfl rfl rfl
  simp only [Act.put, List.setIfInBounds_toArray, List.set_cons_zero, List.set_cons_succ]
  refine wpAnyH_ready (rs := [20]) (by kernel_rfl) (by simp) ?_
  refine AllReadyH.cons rfl (fun K hK => ?_) AllReadyH.nil
  refine step_making (o := ⟨some 9, .alloc 26, _, _, _, none⟩) wz rfl 26 rfl (pcC pn0 (.slice none 0 0)) H (zero_pc _) HV.out.sz HV.out.al ?_
  refine hK.out _ _ HSZ.out (fun _ => ?_)
  clear hK K
  try simp only [Act.put, List.setIfInBounds_toArray, List.set_cons_zero, List.set_cons_succ]
  refine wpAnyH_ready (rs := [21]) (by kernel_rfl) (by simp) ?_
  refine AllReadyH.cons rfl (fun K hK => ?_) AllReadyH.nil
  refine step_storing (o := ⟨none, .store 26 (.tmp 9) (.tmp 34), _, _, _, none⟩) w1 rfl 26 (.tmp 9) (.tmp 34) rfl (.agg (pcC q (.slice A n C))) ⟨H, 0, none⟩ rfl rfl HV.out.st ?_
  refine hK.out _ _ HSX.out (fun _ => ?_)
  clear hK K
  try simp only [Act.put, List.setIfInBounds_toArray, List.set_cons_zero, List.set_cons_succ]
  refine wpAnyH_done (by kernel_rfl) ?_ _
  clear HSR HSZ HWD
  go_wp2_with fail
  have HS0 : Hid (∃ s, PutsO w1 w1 (.slice none 0 0) 0 (putR x q) s) := ⟨fun _ => .slice none 0 0, PutsO.start w1 _ _⟩
  go_loopw [10, 11, 12, 13, 35, 36, 37, 38, 39, 40, 41, 42, 43, 44, 45, 46, 47, 48, 49, 50, 51, 52, 53, 54, 55, 56, 57, 58, 59, 60, 61, 62, 63, 64, 65, 66, 67, 68, 69, 70, 71, 72, 73, 74] (fun v _ _ _ i _ _ _ _ _ _ _ _ _ _ _ _ _ _ _ _ _ _ _ _ _ _ _ _ _ _ _ _ _ _ _ _ _ _ _ _ _ _ _ wr => ∃ k : Nat, k ≤ 2 ∧ i = .int .i64 k ∧ Hid (∃ s, PutsO w1 wr v k (putR x q) s)) (fun _ _ _ _ i _ _ _ _ _ _ _ _ _ _ _ _ _ _ _ _ _ _ _ _ _ _ _ _ _ _ _ _ _ _ _ _ _ _ _ _ _ _ _ _ => 2 - (intOf i).toNat)
  case atStart => exact ⟨0, Nat.zero_le _, rfl, HS0⟩
  case round =>
    obtain ⟨k, hk, rfl, HK⟩ := hrel
    clear HS0
    obtain ⟨s, hs⟩ := HK.out
    obtain ⟨A0, C0, rfl⟩ := hs.len
    have HK := Lib.hid hs
    clear hs
    by_cases hlt : k < 2
    · have i1 : (0 : Int) ≤ (k : Int) := Int.natCast_nonneg _
      have i2 : (k : Int) < 2 := by omega
      obtain ⟨wd, hwd⟩ : ∃ wd, wd = wr.drew := ⟨_, rfl⟩
      have hcd : Ch (fun _ => False) wr wd := by rw [hwd]; exact (Ch.refl _ wr).drew
      have HWD := Lib.hid hwd
      have HPD := Lib.hid (HK.out.gr hcd)
      have HSD := Lib.hid (HBASE.out.gr HPD.out.ch)
      have HSE := Lib.hid (rsector_any x.vol x.g (k : Int) q (.slice A n C) wd HVO.out (HPC.out.gr (HC1.out.trans HPD.out.ch)))
      have hrk := rok_mirs HROK.out hlt
      have HNE : Hid (secRN x.vol x.g (k : Int) q = 256 ∧ secRE x.vol x.g (k : Int) q = 0) := Lib.hid ⟨by unfold secRN; rw [hrk]; rfl, by unfold secRE; rw [hrk]; rfl⟩
      clear hwd hcd hrk
      go_upto_region 6 with fail
      refine wp_region_held (S := (HoldW R H x q (.slice A n C))) (by kernel_rfl) ?_
      change wpAnyH _ _ _ _ _ _ _ _ (World.drew _)
      rw [← HWD.out]
      refine wpAnyH_take (i := 0) (oi := ⟨some 39, .move (.tmp 0), _, _, _, none⟩) (v := .pointer (some ⟨R, 0, none⟩)) rfl (by kernel_rfl) (by kernel_rfl) (by kernel_rfl) (fun _ _ _ h => h) (Or.inl ⟨by rfl, fun w' hS => ?_⟩) HSD.out ?_
      · clear hS; go_simp
      simp only [Act.put, List.setIfInBounds_toArray, List.set_cons_zero, List.set_cons_succ]
      refine wpAnyH_take (i := 1) (oi := ⟨some 40, .nilCheck (.tmp 39), _, _, _, none⟩) (v := .pointer (some ⟨R, 0, none⟩)) rfl (by kernel_rfl) (by kernel_rfl) (by kernel_rfl) (fun _ _ _ h => h) (Or.inl ⟨by rfl, fun w' hS => ?_⟩) HSD.out ?_
      · clear hS; go_simp
      simp only [Act.put, List.setIfInBounds_toArray, List.set_cons_zero, List.set_cons_succ]
      refine wpAnyH_take (i := 2) (oi := ⟨some 41, .fieldAddr 109 (.tmp 40) 1, _, _, _, none⟩) (v := .pointer (some ⟨R, 1, none⟩)) rfl (by kernel_rfl) (by kernel_rfl) (by kernel_rfl) (fun _ _ _ h => h) (Or.inl ⟨by rfl, fun w' hS => ?_⟩) HSD.out ?_
      · clear hS; go_simp
      simp only [Act.put, List.setIfInBounds_toArray, List.set_cons_zero, List.set_cons_succ]
      refine wpAnyH_take (i := 3) (oi := ⟨some 42, .load 3 (.tmp 41), _, _, _, none⟩) (v := .int .i64 x.vol) rfl (by kernel_rfl) (by kernel_rfl) (by kernel_rfl) (fun _ _ _ h => h) (Or.inl ⟨by rfl, fun w' hS => ?_⟩) HSD.out ?_
      · have s1 : w'.cell? ⟨R, 1, none⟩ = some (.int .i64 x.vol) := hS.c1; clear hS; go_simp
      simp only [Act.put, List.setIfInBounds_toArray, List.set_cons_zero, List.set_cons_succ]
      refine wpAnyH_take (i := 4) (oi := ⟨some 43, .move (.tmp 0), _, _, _, none⟩) (v := .pointer (some ⟨R, 0, none⟩)) rfl (by kernel_rfl) (by kernel_rfl) (by kernel_rfl) (fun _ _ _ h => h) (Or.inl ⟨by rfl, fun w' hS => ?_⟩) HSD.out ?_
      · clear hS; go_simp
      simp only [Act.put, List.setIfInBounds_toArray, List.set_cons_zero, List.set_cons_succ]
      refine wpAnyH_take (i := 5) (oi := ⟨some 44, .nilCheck (.tmp 43), _, _, _, none⟩) (v := .pointer (some ⟨R, 0, none⟩)) rfl (by kernel_rfl) (by kernel_rfl) (by kernel_rfl) (fun _ _ _ h => h) (Or.inl ⟨by rfl, fun w' hS => ?_⟩) HSD.out ?_
      · clear hS; go_simp
      simp only [Act.put, List.setIfInBounds_toArray, List.set_cons_zero, List.set_cons_succ]
      refine wpAnyH_take (i := 6) (oi := ⟨some 45, .fieldAddr 109 (.tmp 44) 2, _, _, _, none⟩) (v := .pointer (some ⟨R, 2, none⟩)) rfl (by kernel_rfl) (by kernel_rfl) (by kernel_rfl) (fun _ _ _ h => h) (Or.inl ⟨by rfl, fun w' hS => ?_⟩) HSD.out ?_
      · clear hS; go_simp
      simp only [Act.put, List.setIfInBounds_toArray, List.set_cons_zero, List.set_cons_succ]
      refine wpAnyH_take (i := 7) (oi := ⟨some 46, .load 23 (.tmp 45), _, _, _, none⟩) (v := .agg (geC x.g)) rfl (by kernel_rfl) (by kernel_rfl) (by kernel_rfl) (fun _ _ _ h => h) (Or.inl ⟨by rfl, fun w' hS => ?_⟩) HSD.out ?_
      · have s2 := hS.c2; have s3 := hS.c3; have s4 := hS.c4; have s5 := hS.c5; clear hS; go_simp; rfl
      simp only [Act.put, List.setIfInBounds_toArray, List.set_cons_zero, List.set_cons_succ]
      refine wpAnyH_take (i := 8) (oi := ⟨some 47, .move (.tmp 11), _, _, _, none⟩) (v := .int .i64 (k : Int)) rfl (by kernel_rfl) (by kernel_rfl) (by kernel_rfl) (fun _ _ _ h => h) (Or.inl ⟨by rfl, fun w' hS => ?_⟩) HSD.out ?_
      · clear hS; go_simp
      simp only [Act.put, List.setIfInBounds_toArray, List.set_cons_zero, List.set_cons_succ]
      refine wpAnyH_take (i := 9) (oi := ⟨some 48, .load 26 (.tmp 9), _, _, _, none⟩) (v := .agg (pcC q (.slice A n C))) rfl (by kernel_rfl) (by kernel_rfl) (by kernel_rfl) (fun _ _ _ h => h) (Or.inl ⟨by rfl, exec_load _ (.tmp 9) rfl _ ⟨H, 0, none⟩ (by first | (simp [Act.eval]; done) | simp [Act.eval, Act.put]) (fun w' hS => load_pc hS.pc)⟩) HSD.out ?_
      simp only [Act.put, List.setIfInBounds_toArray, List.set_cons_zero, List.set_cons_succ]
      refine wpAnyH_ready (rs := [10]) (by kernel_rfl) (by simp) ?_
      refine AllReadyH.cons rfl (fun K hK => ?_) AllReadyH.nil
      go_simp
      refine HSE.out.mono ?_
      rintro e w3 ⟨A4, C4, rfl, ho2, hc2⟩
      rw [HNE.out.1] at ho2
      rw [HNE.out.1, HNE.out.2]
      have HO2 := Lib.hid ho2
      have HC2 := Lib.hid hc2
      have HS3 := Lib.hid (HSD.out.gr hc2)
      clear ho2 hc2
      dsimp only
      refine hK.out _ _ HS3.out (fun _ => ?_)
      clear hK K
      try simp only [Act.put, List.setIfInBounds_toArray, List.set_cons_zero, List.set_cons_succ]
      refine wpAnyH_take (i := 11) (oi := ⟨some 38, .move (.tmp 49), _, _, _, none⟩) (v := .tuple #[.slice A4 256 C4, .int .i64 0]) rfl (by kernel_rfl) (by kernel_rfl) (by kernel_rfl) (fun _ _ _ h => h) (Or.inl ⟨by rfl, fun w' hS => ?_⟩) HS3.out ?_
      · clear hS; go_simp
      simp only [Act.put, List.setIfInBounds_toArray, List.set_cons_zero, List.set_cons_succ]
      refine wpAnyH_take (i := 12) (oi := ⟨some 50, .extract (.tmp 38) 0, _, _, _, none⟩) (v := .slice A4 256 C4) rfl (by kernel_rfl) (by kernel_rfl) (by kernel_rfl) (fun _ _ _ h => h) (Or.inl ⟨by rfl, fun w' hS => ?_⟩) HS3.out ?_
      · clear hS; go_simp
      simp only [Act.put, List.setIfInBounds_toArray, List.set_cons_zero, List.set_cons_succ]
      refine wpAnyH_take (i := 13) (oi := ⟨some 51, .extract (.tmp 38) 1, _, _, _, none⟩) (v := .int .i64 0) rfl (by kernel_rfl) (by kernel_rfl) (by kernel_rfl) (fun _ _ _ h => h) (Or.inl ⟨by rfl, fun w' hS => ?_⟩) HS3.out ?_
      · clear hS; go_simp
      simp only [Act.put, List.setIfInBounds_toArray, List.set_cons_zero, List.set_cons_succ]
      refine wpAnyH_take (i := 14) (oi := ⟨some 12, .assign (.tmp 50), _, _, _, none⟩) (v := .slice A4 256 C4) rfl (by kernel_rfl) (by kernel_rfl) (by kernel_rfl) (fun _ _ _ h => h) (Or.inl ⟨by rfl, fun w' hS => ?_⟩) HS3.out ?_
      · clear hS; go_simp
      try simp only [Act.put, List.setIfInBounds_toArray, List.set_cons_zero, List.set_cons_succ]
      refine wpAnyH_take (i := 15) (oi := ⟨some 13, .assign (.tmp 51), _, _, _, none⟩) (v := .int .i64 0) rfl (by kernel_rfl) (by kernel_rfl) (by kernel_rfl) (fun _ _ _ h => h) (Or.inl ⟨by rfl, fun w' hS => ?_⟩) HS3.out ?_
      · clear hS; go_simp
      try simp only [Act.put, List.setIfInBounds_toArray, List.set_cons_zero, List.set_cons_succ]
      refine wpAnyH_done (by kernel_rfl) ?_ _
      clear HSD HWD HSE HNE
      obtain ⟨wd3, hwd⟩ : ∃ wd3, wd3 = w3.drew := ⟨_, rfl⟩
      have hcd : Ch (fun _ => False) w3 wd3 := by rw [hwd]; exact (Ch.refl _ w3).drew
      have HWD := Lib.hid hwd
      obtain ⟨sb, rfl, hob⟩ := own_new (w := w1) HO2.out (by omega) (by omega) (sectR_b HPC.out.byt _) HPD.out.ch.size
      have HPO := Lib.hid ((HPD.out.gr HC2.out).gr hcd)
      have HOB := Lib.hid (hob.ch hcd (fun f => f))
      have HSD := Lib.hid (HS3.out.gr hcd)
      have hsl := slot_in HGM.out HMP.out.seq.1
      have HAD := Lib.hid (raddr_any x.g (k : Int) (q.seq % x.g.wal) wd3 HGM.out ⟨by omega, by omega⟩ hsl)
      have HWN := Lib.hid (show ¬ x.g.wal = 0 by omega)
      have HTM := Lib.hid (show Int.tmod q.seq x.g.wal = q.seq % x.g.wal from Int.tmod_eq_emod_of_nonneg HMP.out.seq.1)
      clear hwd hcd hob hsl HPD HO2 HC2 HS3
      go_upto_region 9 with fail
      refine wp_region_held (S := (HoldW R H x q (.slice A n C))) (by kernel_rfl) ?_
      change wpAnyH _ _ _ _ _ _ _ _ (World.drew _)
      rw [← HWD.out]
      refine wpAnyH_take (i := 0) (oi := ⟨some 55, .move (.tmp 10), _, _, _, none⟩) (v := .slice A0 k C0) rfl (by kernel_rfl) (by kernel_rfl) (by kernel_rfl) (fun _ _ _ h => h) (Or.inl ⟨by rfl, fun w' hS => ?_⟩) HSD.out ?_
      · clear hS; go_simp
      simp only [Act.put, List.setIfInBounds_toArray, List.set_cons_zero, List.set_cons_succ]
      refine wpAnyH_take (i := 1) (oi := ⟨some 56, .move (.tmp 0), _, _, _, none⟩) (v := .pointer (some ⟨R, 0, none⟩)) rfl (by kernel_rfl) (by kernel_rfl) (by kernel_rfl) (fun _ _ _ h => h) (Or.inl ⟨by rfl, fun w' hS => ?_⟩) HSD.out ?_
      · clear hS; go_simp
      simp only [Act.put, List.setIfInBounds_toArray, List.set_cons_zero, List.set_cons_succ]
      refine wpAnyH_take (i := 2) (oi := ⟨some 57, .nilCheck (.tmp 56), _, _, _, none⟩) (v := .pointer (some ⟨R, 0, none⟩)) rfl (by kernel_rfl) (by kernel_rfl) (by kernel_rfl) (fun _ _ _ h => h) (Or.inl ⟨by rfl, fun w' hS => ?_⟩) HSD.out ?_
      · clear hS; go_simp
      simp only [Act.put, List.setIfInBounds_toArray, List.set_cons_zero, List.set_cons_succ]
      refine wpAnyH_take (i := 3) (oi := ⟨some 58, .fieldAddr 109 (.tmp 57) 2, _, _, _, none⟩) (v := .pointer (some ⟨R, 2, none⟩)) rfl (by kernel_rfl) (by kernel_rfl) (by kernel_rfl) (fun _ _ _ h => h) (Or.inl ⟨by rfl, fun w' hS => ?_⟩) HSD.out ?_
      · clear hS; go_simp
      simp only [Act.put, List.setIfInBounds_toArray, List.set_cons_zero, List.set_cons_succ]
      refine wpAnyH_take (i := 4) (oi := ⟨some 59, .load 23 (.tmp 58), _, _, _, none⟩) (v := .agg (geC x.g)) rfl (by kernel_rfl) (by kernel_rfl) (by kernel_rfl) (fun _ _ _ h => h) (Or.inl ⟨by rfl, fun w' hS => ?_⟩) HSD.out ?_
      · have s2 := hS.c2; have s3 := hS.c3; have s4 := hS.c4; have s5 := hS.c5; clear hS; go_simp; rfl
      simp only [Act.put, List.setIfInBounds_toArray, List.set_cons_zero, List.set_cons_succ]
      refine wpAnyH_take (i := 5) (oi := ⟨some 60, .move (.tmp 11), _, _, _, none⟩) (v := .int .i64 (k : Int)) rfl (by kernel_rfl) (by kernel_rfl) (by kernel_rfl) (fun _ _ _ h => h) (Or.inl ⟨by rfl, fun w' hS => ?_⟩) HSD.out ?_
      · clear hS; go_simp
      simp only [Act.put, List.setIfInBounds_toArray, List.set_cons_zero, List.set_cons_succ]
      refine wpAnyH_take (i := 6) (oi := ⟨some 61, .fieldAddr 26 (.tmp 9) 0, _, _, _, none⟩) (v := .pointer (some ⟨H, 0, none⟩)) rfl (by kernel_rfl) (by kernel_rfl) (by kernel_rfl) (fun _ _ _ h => h) (Or.inl ⟨by rfl, fun w' hS => ?_⟩) HSD.out ?_
      · clear hS; go_simp
      simp only [Act.put, List.setIfInBounds_toArray, List.set_cons_zero, List.set_cons_succ]
      refine wpAnyH_take (i := 7) (oi := ⟨some 62, .load 3 (.tmp 61), _, _, _, none⟩) (v := .int .i64 q.seq) rfl (by kernel_rfl) (by kernel_rfl) (by kernel_rfl) (fun _ _ _ h => h) (Or.inl ⟨by rfl, fun w' hS => ?_⟩) HSD.out ?_
      · have s0 : w'.cell? ⟨H, 0, none⟩ = some (.int .i64 q.seq) := blk_cell hS.pc; clear hS; go_simp
      simp only [Act.put, List.setIfInBounds_toArray, List.set_cons_zero, List.set_cons_succ]
      refine wpAnyH_take (i := 8) (oi := ⟨some 63, .move (.tmp 0), _, _, _, none⟩) (v := .pointer (some ⟨R, 0, none⟩)) rfl (by kernel_rfl) (by kernel_rfl) (by kernel_rfl) (fun _ _ _ h => h) (Or.inl ⟨by rfl, fun w' hS => ?_⟩) HSD.out ?_
      · clear hS; go_simp
      simp only [Act.put, List.setIfInBounds_toArray, List.set_cons_zero, List.set_cons_succ]
      refine wpAnyH_take (i := 9) (oi := ⟨some 64, .nilCheck (.tmp 63), _, _, _, none⟩) (v := .pointer (some ⟨R, 0, none⟩)) rfl (by kernel_rfl) (by kernel_rfl) (by kernel_rfl) (fun _ _ _ h => h) (Or.inl ⟨by rfl, fun w' hS => ?_⟩) HSD.out ?_
      · clear hS; go_simp
      simp only [Act.put, List.setIfInBounds_toArray, List.set_cons_zero, List.set_cons_succ]
      refine wpAnyH_take (i := 10) (oi := ⟨some 65, .fieldAddr 109 (.tmp 64) 2, _, _, _, none⟩) (v := .pointer (some ⟨R, 2, none⟩)) rfl (by kernel_rfl) (by kernel_rfl) (by kernel_rfl) (fun _ _ _ h => h) (Or.inl ⟨by rfl, fun w' hS => ?_⟩) HSD.out ?_
      · clear hS; go_simp
      simp only [Act.put, List.setIfInBounds_toArray, List.set_cons_zero, List.set_cons_succ]
      refine wpAnyH_take (i := 11) (oi := ⟨some 66, .fieldAddr 23 (.tmp 65) 0, _, _, _, none⟩) (v := .pointer (some ⟨R, 2, none⟩)) rfl (by kernel_rfl) (by kernel_rfl) (by kernel_rfl) (fun _ _ _ h => h) (Or.inl ⟨by rfl, fun w' hS => ?_⟩) HSD.out ?_
      · clear hS; go_simp
      simp only [Act.put, List.setIfInBounds_toArray, List.set_cons_zero, List.set_cons_succ]
      refine wpAnyH_take (i := 12) (oi := ⟨some 67, .load 3 (.tmp 66), _, _, _, none⟩) (v := .int .i64 x.g.wal) rfl (by kernel_rfl) (by kernel_rfl) (by kernel_rfl) (fun _ _ _ h => h) (Or.inl ⟨by rfl, fun w' hS => ?_⟩) HSD.out ?_
      · have s2 : w'.cell? ⟨R, 2, none⟩ = some (.int .i64 x.g.wal) := hS.c2; clear hS; go_simp
      simp only [Act.put, List.setIfInBounds_toArray, List.set_cons_zero, List.set_cons_succ]
      refine wpAnyH_take (i := 13) (oi := ⟨some 68, .binOp .rem 3 (.tmp 62) (.tmp 67) 3, _, _, _, none⟩) (v := .int .i64 (q.seq % x.g.wal)) rfl (by kernel_rfl) (by kernel_rfl) (by kernel_rfl) (fun _ _ _ h => h) (Or.inl ⟨by rfl, fun w' hS => ?_⟩) HSD.out ?_
      · clear hS; go_simp; rw [if_neg HWN.out, HTM.out]
      simp only [Act.put, List.setIfInBounds_toArray, List.set_cons_zero, List.set_cons_succ]
      refine wpAnyH_take (i := 15) (oi := ⟨some 70, .move (.tmp 12), _, _, _, none⟩) (v := .slice (some ⟨sb, 0, none⟩) 256 C4) rfl (by kernel_rfl) (by kernel_rfl) (by kernel_rfl) (fun _ _ _ h => h) (Or.inl ⟨by rfl, fun w' hS => ?_⟩) HSD.out ?_
      · clear hS; go_simp
      simp only [Act.put, List.setIfInBounds_toArray, List.set_cons_zero, List.set_cons_succ]
      refine wpAnyH_ready (rs := [14]) (by kernel_rfl) (by simp) ?_
      refine AllReadyH.cons rfl (fun K hK => ?_) AllReadyH.nil
      go_simp
      refine HAD.out.mono ?_
      rintro e w5 ⟨rfl, hc5⟩
      have HS5 := Lib.hid (HSD.out.gr hc5)
      obtain ⟨g2, cap, w6, hr6, hs6⟩ := (HPO.out.gr hc5).app (u := .slice (some ⟨sb, 0, none⟩) 256 C4) (HOB.out.ch hc5 (fun f => f)) (by omega)
      have HSL := Lib.hid (slice_put w5 (.int .i64 (addrR x.g (k : Int) (q.seq % x.g.wal))) (.slice (some ⟨sb, 0, none⟩) 256 C4))
      have hcs : Ch (fun _ => False) w5 (w5.alloc (.cells #[.int .i64 (addrR x.g (k : Int) (q.seq % x.g.wal)), .slice (some ⟨sb, 0, none⟩) 256 C4] 164)) := (Ch.refl _ w5).alloc _ _
      have HSA := Lib.hid (HS5.out.gr hcs)
      have HSB : Hid (HoldW R H x q (.slice A n C) w6) := Lib.hid (HBASE.out.gr hs6.ch)
      obtain ⟨ws, hws⟩ : ∃ ws, ws = w5.alloc (.cells #[.int .i64 (addrR x.g (k : Int) (q.seq % x.g.wal)), .slice (some ⟨sb, 0, none⟩) 256 C4] 164) := ⟨_, rfl⟩
      obtain ⟨Kb, hKb⟩ : ∃ Kb, Kb = w5.heap.size := ⟨_, rfl⟩
      obtain ⟨N, hN⟩ : ∃ N, N = k + 1 := ⟨_, rfl⟩
      have hpl : (putR x q k).pl = addrR x.g (k : Int) (q.seq % x.g.wal) := rfl
      rw [hpl, ← hws, ← hKb, ← hN] at hr6
      rw [← hws, ← hKb] at HSL
      rw [← hws] at HSA
      rw [← hN] at hs6
      have HRUN := Lib.hid hr6
      have HS6 := Lib.hid (show ∃ s, PutsO w1 w6 _ N (putR x q) s from ⟨_, hs6⟩)
      have HN := Lib.hid hN
      clear hr6 hs6 hpl hws hKb hN hc5 hcs
      dsimp only
      refine hK.out _ _ HS5.out (fun _ => ?_)
      clear hK K
      try simp only [Act.put, List.setIfInBounds_toArray, List.set_cons_zero, List.set_cons_succ]
      refine wpAnyH_take (i := 16) (oi := ⟨some 71, .build 164 #[(0, .tmp 69), (1, .tmp 70)], _, _, _, none⟩) (v := .agg #[.int .i64 (addrR x.g (k : Int) (q.seq % x.g.wal)), .slice (some ⟨sb, 0, none⟩) 256 C4]) rfl (by kernel_rfl) (by kernel_rfl) (by kernel_rfl) (fun _ _ _ h => h) (Or.inl ⟨by rfl, fun w' hS => ?_⟩) HS5.out ?_
      · clear hS; exact exec_put _ _ _ rfl rfl rfl
      simp only [Act.put, List.setIfInBounds_toArray, List.set_cons_zero, List.set_cons_succ]
      refine wpAnyH_ready (rs := [17]) (by kernel_rfl) (by simp) ?_
      refine AllReadyH.cons rfl (fun K hK => ?_) AllReadyH.nil
      refine step_slicing1 (o := ⟨some 72, .buildSlice 162 1 #[(0, .tmp 71)], _, _, _, none⟩) rfl 162 0 1 (.tmp 71) rfl (.agg #[.int .i64 (addrR x.g (k : Int) (q.seq % x.g.wal)), .slice (some ⟨sb, 0, none⟩) 256 C4]) (.slice (some ⟨Kb, 0, none⟩) 1 1) ws rfl (by exact HSL.out) ?_
      refine hK.out _ _ HSA.out (fun _ => ?_)
      clear hK K
      try simp only [Act.put, List.setIfInBounds_toArray, List.set_cons_zero, List.set_cons_succ]
      refine wpAnyH_ready (rs := [18]) (by kernel_rfl) (by simp) ?_
      refine AllReadyH.cons rfl (fun K hK => ?_) AllReadyH.nil
      refine step_app_of (o := ⟨some 73, .call { callee := .builtin .append, args := #[.tmp 55, .tmp 72], argTypes := #[ 162, 162] }, _, _, _, none⟩) 162 rfl (.tmp 55) (.tmp 72) rfl rfl (.slice A0 k C0) (.slice (some ⟨Kb, 0, none⟩) 1 1) (.slice (some ⟨g2, 0, none⟩) N cap) w6 rfl rfl (by exact HRUN.out) ?_
      refine hK.out _ _ HSB.out (fun _ => ?_)
      clear hK K
      try simp only [Act.put, List.setIfInBounds_toArray, List.set_cons_zero, List.set_cons_succ]
      refine wpAnyH_take (i := 19) (oi := ⟨some 10, .assign (.tmp 73), _, _, _, none⟩) (v := .slice (some ⟨g2, 0, none⟩) N cap) rfl (by kernel_rfl) (by kernel_rfl) (by kernel_rfl) (fun _ _ _ h => h) (Or.inl ⟨by rfl, fun w' hS => ?_⟩) HSB.out ?_
      · clear hS; go_simp
      try simp only [Act.put, List.setIfInBounds_toArray, List.set_cons_zero, List.set_cons_succ]
      refine wpAnyH_done (by kernel_rfl) ?_ _
      go_wp2_with fail
      go_roundw
      case rel => exact ⟨N, by rw [HN.out]; omega, by rw [HN.out]; go_num, HS6⟩
      case measure => have := HN.out; simp [intOf]; omega
    · obtain rfl : k = 2 := by omega
      have hVr := HK.out.read (by omega)
      have HO := Lib.hid (kall_any base (fun i => w1.heap.size ≤ i ∧ i < wr.heap.size) p d 2 (putR x q) A0 C0 t wr (HDV.out.gr (HC1.out.trans HK.out.ch)) hVr (fun i hi hf => by have := (HDV.out.foot hf).2; have := HC1.out.size; omega) (fun i hi => hi.2) HPL.out.1 HPL.out.2.1 (by have := HPL.out.2.2; omega))
      have HCW := Lib.hid (HC1.out.trans HK.out.ch)
      have HBW := Lib.hid (HBASE.out.gr HK.out.ch)
      have HRW := Lib.hid (HRG.out.gr HCW.out)
      have r0 : wr.cell? ⟨R, 0, none⟩ = some (.pointer (some ⟨p.B, 0, none⟩)) := by have := blk_cell (i := 0) HRW.out; rw [this, ← HXD.out]; rfl
      clear hlt hk hVr HK
      rw [show ((2 : Nat) : Int) = 2 from rfl]
      go_wp2_with fail
      refine HO.out.mono ?_
      rintro e w2 ⟨rfl, p', hp1, hp2, hp3, hp4⟩
      obtain ⟨E, hE⟩ : ∃ E, E = wrE x q d := ⟨_, rfl⟩
      rw [show (allTo (putR x q) d 2).e = E from hE.symm]
      have hch2 : Ch (fun i => Foot p d i) w w2 := (HCW.out.mono fun _ _ f => f.elim).trans hp4
      have hR2 : RgIs w2 R x := HRG.out.off hch2 HRF.out
      have hf2 : ∀ i, Foot p' (wrD x q d) i → Foot p d i ∨ w.heap.size ≤ i := fun i hi => (hp3 i hi).imp id fun q => Nat.le_trans HCW.out.size q
      have hRl : R < w.heap.size := blk_lt (o := .cells (rgC x) 109 (0, 0)) HRG.out
      have hRn : ¬ Foot p' (wrD x q d) R := fun hi => (hf2 R hi).elim HRF.out (fun q => by omega)
      have hH2 : HoldW R H x q (.slice A n C) w2 := HoldW.mk' hR2 ((hp4.block H (blk_lt HBW.out.pc) fun hf => by have := (HDV.out.foot hf).2; have := HHW.out; omega).trans HBW.out.pc)
      have HE := Lib.hid hE
      have HDEV := Lib.hid (show p'.B = p.B ∧ DevIs base w2 p' (wrD x q d) from ⟨hp1, hp2⟩)
      have HF2 := Lib.hid hf2
      have HRN := Lib.hid hRn
      have HCH2 := Lib.hid hch2
      have HR2 := Lib.hid hR2
      have HH2 := Lib.hid hH2
      clear hp1 hp2 hp3 hp4 hE hch2 hR2 hf2 hRl hRn hH2 HO r0
      by_cases hE0 : E = 0
      · subst hE0
        obtain ⟨x1, hx1⟩ : ∃ x1 : Rg, x1 = { x with next := x.next + 1 } := ⟨_, rfl⟩
        obtain ⟨w4, hw4⟩ : ∃ w4, w4 = w2.setCell ⟨R, 9, none⟩ (.int .i64 (x.next + 1)) := ⟨_, rfl⟩
        obtain ⟨wd, hwd⟩ : ∃ wd, wd = w4.drew := ⟨_, rfl⟩
        have hR4 : RgIs w4 R x1 := by rw [hw4, hx1]; exact blk_set (i := 9) HR2.out _
        have k4 : Ch (fun i => i = R) w2 w4 := by rw [hw4]; exact (Ch.refl (fun i => i = R) w2).setCell (p := ⟨R, 9, none⟩) (Or.inl rfl) _
        have kd : Ch (fun i => i = R) w2 wd := by rw [hwd]; exact k4.trans ((Ch.refl _ w4).drew)
        have hRd : RgIs wd R x1 := by rw [hwd]; exact hR4.gr (Ch.refl _ w4).drew
        have hHd : wd.heap[H]? = some (.cells (pcC q (.slice A n C)) 26 (0, 0)) := (kd.block H (blk_lt HH2.out.pc) (fun e => by
          have h1 := HH2.out.pc
          rw [e] at h1
          have h2 : w2.heap[R]? = some (.cells (rgC x) 109 (0, 0)) := HR2.out
          rw [h2] at h1
          injection h1 with h1
          injection h1 with _ h1
          exact absurd h1 (by decide))).trans HH2.out.pc
        have HSD := Lib.hid (HoldW.mk' hRd hHd)
        have HRD := Lib.hid hRd
        have HRO : Hid (PcIs wd q (.slice A n C)) := Lib.hid ⟨(HPC.out.row.off HCH2.out (HOFF.out.mono fun i e => Or.inl e)).off kd (HOFF.out.mono fun i e => Or.inr e), HPC.out.byt⟩
        have HSU := Lib.hid (rgSum_any x.vol x.g q (.slice A n C) wd HVO.out HROK.out HRO.out)
        rw [show x.vol = x1.vol by rw [hx1], show x.g = x1.g by rw [hx1]] at HSU
        have HPOST : Hid (∀ w5, Ch (fun _ => False) wd w5 → WrPost base p d R x q w (.returned (.int .i64 0)) (w5.setCell ⟨R, 10, none⟩ (.int .i64 (sumR x1.vol x1.g q)))) := Lib.hid fun w5 hc5 => by
          have hs : Ch (fun i => i = R) w2 (w5.setCell ⟨R, 10, none⟩ (.int .i64 (sumR x1.vol x1.g q))) := (kd.trans (hc5.mono fun _ _ f => f.elim)).setCell (p := ⟨R, 10, none⟩) (Or.inl rfl) _
          refine ⟨by rw [← HE.out], ?_, p', HDEV.out.1, HDEV.out.2.ch hs (fun i hi e => HRN.out (e ▸ hi)), HF2.out, (HCH2.out.mono fun i _ f => Or.inl f).trans (hs.mono fun i _ f => Or.inr f)⟩
          rw [← HE.out]
          have := blk_set (i := 10) (hRd.gr hc5) (.int .i64 (sumR x1.vol x1.g q))
          rw [hx1] at this ⊢
          exact this
        have HSET : Hid (∀ w5, Ch (fun _ => False) wd w5 → HoldW R H x1 q (.slice A n C) (w5.setCell ⟨R, 10, none⟩ (.int .i64 (sumR x1.vol x1.g q)))) := Lib.hid fun w5 hc5 => by
          have h5 := blk_set (i := 10) (hRd.gr hc5) (.int .i64 (sumR x1.vol x1.g q))
          have hs : Ch (fun i => i = R) w5 (w5.setCell ⟨R, 10, none⟩ (.int .i64 (sumR x1.vol x1.g q))) := (Ch.refl (fun i => i = R) w5).setCell (p := ⟨R, 10, none⟩) (Or.inl rfl) _
          refine ⟨blk_cell h5, blk_cell h5, blk_cell h5, blk_cell h5, blk_cell h5, (hs.block H ?_ ?_).trans ((hc5.block H (blk_lt hHd) (fun f => f)).trans hHd)⟩
          · exact Nat.lt_of_lt_of_le (blk_lt hHd) hc5.size
          · intro e
            have h1 := HH2.out.pc
            rw [e] at h1
            have h2 : w2.heap[R]? = some (.cells (rgC x) 109 (0, 0)) := HR2.out
            rw [h2] at h1
            injection h1 with h1
            injection h1 with _ h1
            exact absurd h1 (by decide)
        have y9 : w2.cell? ⟨R, 9, none⟩ = some (.int .i64 x.next) := blk_cell HR2.out
        have z9 : w2.frozen? ⟨R, 9, none⟩ = false := blk_frozen HR2.out
        have e9 : wrap64 (x.next + 1) = x.next + 1 := IntWalk.wrap64_in _ (by
          have h1 := HMP.out.seq
          have h2 : q.seq = x.next := by rw [HQ.out]
          rw [h2] at h1
          exact ⟨by omega, by omega⟩)
        have HWD := Lib.hid hwd
        have HW4 := Lib.hid hw4
        have HX1 := Lib.hid hx1
        clear hwd hw4 hx1 hR4 k4 kd hRd hHd
        go_upto_region 15 with fail
        rw [← HW4.out]
        clear y9 z9
        refine wp_region_held (S := (HoldW R H x1 q (.slice A n C))) (by kernel_rfl) ?_
        change wpAnyH _ _ _ _ _ _ _ _ (World.drew _)
        rw [← HWD.out]
        refine wpAnyH_take (i := 0) (oi := ⟨some 91, .move (.tmp 0), _, _, _, none⟩) (v := .pointer (some ⟨R, 0, none⟩)) rfl (by kernel_rfl) (by kernel_rfl) (by kernel_rfl) (fun _ _ _ h => h) (Or.inl ⟨by rfl, fun w' hS => ?_⟩) HSD.out ?_
        · clear hS; go_simp
        simp only [Act.put, List.setIfInBounds_toArray, List.set_cons_zero, List.set_cons_succ]
        refine wpAnyH_take (i := 1) (oi := ⟨some 92, .move (.tmp 0), _, _, _, none⟩) (v := .pointer (some ⟨R, 0, none⟩)) rfl (by kernel_rfl) (by kernel_rfl) (by kernel_rfl) (fun _ _ _ h => h) (Or.inl ⟨by rfl, fun w' hS => ?_⟩) HSD.out ?_
        · clear hS; go_simp
        simp only [Act.put, List.setIfInBounds_toArray, List.set_cons_zero, List.set_cons_succ]
        refine wpAnyH_take (i := 2) (oi := ⟨some 93, .nilCheck (.tmp 92), _, _, _, none⟩) (v := .pointer (some ⟨R, 0, none⟩)) rfl (by kernel_rfl) (by kernel_rfl) (by kernel_rfl) (fun _ _ _ h => h) (Or.inl ⟨by rfl, fun w' hS => ?_⟩) HSD.out ?_
        · clear hS; go_simp
        simp only [Act.put, List.setIfInBounds_toArray, List.set_cons_zero, List.set_cons_succ]
        refine wpAnyH_take (i := 3) (oi := ⟨some 94, .fieldAddr 109 (.tmp 93) 1, _, _, _, none⟩) (v := .pointer (some ⟨R, 1, none⟩)) rfl (by kernel_rfl) (by kernel_rfl) (by kernel_rfl) (fun _ _ _ h => h) (Or.inl ⟨by rfl, fun w' hS => ?_⟩) HSD.out ?_
        · clear hS; go_simp
        simp only [Act.put, List.setIfInBounds_toArray, List.set_cons_zero, List.set_cons_succ]
        refine wpAnyH_take (i := 4) (oi := ⟨some 95, .load 3 (.tmp 94), _, _, _, none⟩) (v := .int .i64 x1.vol) rfl (by kernel_rfl) (by kernel_rfl) (by kernel_rfl) (fun _ _ _ h => h) (Or.inl ⟨by rfl, fun w' hS => ?_⟩) HSD.out ?_
        · have s1 : w'.cell? ⟨R, 1, none⟩ = some (.int .i64 x1.vol) := hS.c1; clear hS; go_simp
        simp only [Act.put, List.setIfInBounds_toArray, List.set_cons_zero, List.set_cons_succ]
        refine wpAnyH_take (i := 5) (oi := ⟨some 96, .move (.tmp 0), _, _, _, none⟩) (v := .pointer (some ⟨R, 0, none⟩)) rfl (by kernel_rfl) (by kernel_rfl) (by kernel_rfl) (fun _ _ _ h => h) (Or.inl ⟨by rfl, fun w' hS => ?_⟩) HSD.out ?_
        · clear hS; go_simp
        simp only [Act.put, List.setIfInBounds_toArray, List.set_cons_zero, List.set_cons_succ]
        refine wpAnyH_take (i := 6) (oi := ⟨some 97, .nilCheck (.tmp 96), _, _, _, none⟩) (v := .pointer (some ⟨R, 0, none⟩)) rfl (by kernel_rfl) (by kernel_rfl) (by kernel_rfl) (fun _ _ _ h => h) (Or.inl ⟨by rfl, fun w' hS => ?_⟩) HSD.out ?_
        · clear hS; go_simp
        simp only [Act.put, List.setIfInBounds_toArray, List.set_cons_zero, List.set_cons_succ]
        refine wpAnyH_take (i := 7) (oi := ⟨some 98, .fieldAddr 109 (.tmp 97) 2, _, _, _, none⟩) (v := .pointer (some ⟨R, 2, none⟩)) rfl (by kernel_rfl) (by kernel_rfl) (by kernel_rfl) (fun _ _ _ h => h) (Or.inl ⟨by rfl, fun w' hS => ?_⟩) HSD.out ?_
        · clear hS; go_simp
        simp only [Act.put, List.setIfInBounds_toArray, List.set_cons_zero, List.set_cons_succ]
        refine wpAnyH_take (i := 8) (oi := ⟨some 99, .load 23 (.tmp 98), _, _, _, none⟩) (v := .agg (geC x1.g)) rfl (by kernel_rfl) (by kernel_rfl) (by kernel_rfl) (fun _ _ _ h => h) (Or.inl ⟨by rfl, fun w' hS => ?_⟩) HSD.out ?_
        · have s2 := hS.c2; have s3 := hS.c3; have s4 := hS.c4; have s5 := hS.c5; clear hS; go_simp; rfl
        simp only [Act.put, List.setIfInBounds_toArray, List.set_cons_zero, List.set_cons_succ]
        refine wpAnyH_take (i := 9) (oi := ⟨some 100, .load 26 (.tmp 9), _, _, _, none⟩) (v := .agg (pcC q (.slice A n C))) rfl (by kernel_rfl) (by kernel_rfl) (by kernel_rfl) (fun _ _ _ h => h) (Or.inl ⟨by rfl, exec_load _ (.tmp 9) rfl _ ⟨H, 0, none⟩ (by first | (simp [Act.eval]; done) | simp [Act.eval, Act.put]) (fun w' hS => load_pc hS.pc)⟩) HSD.out ?_
        simp only [Act.put, List.setIfInBounds_toArray, List.set_cons_zero, List.set_cons_succ]
        refine wpAnyH_ready (rs := [10]) (by kernel_rfl) (by simp) ?_
        refine AllReadyH.cons rfl (fun K hK => ?_) AllReadyH.nil
        go_simp
        refine HSU.out.mono ?_
        rintro e w5 ⟨rfl, hc5⟩
        have HS5 := Lib.hid (HSD.out.gr hc5)
        have HC5 := Lib.hid hc5
        have HST := Lib.hid (store_int (i := 10) (HRD.out.gr hc5) rfl (sumR x1.vol x1.g q))
        have HFIN := Lib.hid (HPOST.out w5 hc5)
        have HSE := Lib.hid (HSET.out w5 hc5)
        clear hc5
        dsimp only
        refine hK.out _ _ HS5.out (fun _ => ?_)
        clear hK K
        try simp only [Act.put, List.setIfInBounds_toArray, List.set_cons_zero, List.set_cons_succ]
        refine wpAnyH_take (i := 11) (oi := ⟨some 102, .nilCheck (.tmp 91), _, _, _, none⟩) (v := .pointer (some ⟨R, 0, none⟩)) rfl (by kernel_rfl) (by kernel_rfl) (by kernel_rfl) (fun _ _ _ h => h) (Or.inl ⟨by rfl, fun w' hS => ?_⟩) HS5.out ?_
        · clear hS; go_simp
        simp only [Act.put, List.setIfInBounds_toArray, List.set_cons_zero, List.set_cons_succ]
        refine wpAnyH_take (i := 12) (oi := ⟨some 103, .fieldAddr 109 (.tmp 102) 7, _, _, _, none⟩) (v := .pointer (some ⟨R, 10, none⟩)) rfl (by kernel_rfl) (by kernel_rfl) (by kernel_rfl) (fun _ _ _ h => h) (Or.inl ⟨by rfl, fun w' hS => ?_⟩) HS5.out ?_
        · clear hS; go_simp
        simp only [Act.put, List.setIfInBounds_toArray, List.set_cons_zero, List.set_cons_succ]
        refine wpAnyH_ready (rs := [13]) (by kernel_rfl) (by simp) ?_
        refine AllReadyH.cons rfl (fun K hK => ?_) AllReadyH.nil
        refine step_storing (o := ⟨none, .store 3 (.tmp 103) (.tmp 101), _, _, _, none⟩) (w5.setCell ⟨R, 10, none⟩ (.int .i64 (sumR x1.vol x1.g q))) rfl 3 (.tmp 103) (.tmp 101) rfl (.int .i64 (sumR x1.vol x1.g q)) ⟨R, 10, none⟩ rfl rfl HST.out ?_
        refine hK.out _ _ HSE.out (fun _ => ?_)
        clear hK K
        try simp only [Act.put, List.setIfInBounds_toArray, List.set_cons_zero, List.set_cons_succ]
        refine wpAnyH_done (by kernel_rfl) ?_ _
        go_wp2
        go_ret
        exact HFIN.out
      · have HFIN : Hid (WrPost base p d R x q w (.returned (.int .i64 E)) w2) := Lib.hid ⟨by rw [← HE.out], by rw [← HE.out]; unfold nxR; rw [if_neg hE0]; exact HR2.out, p', HDEV.out.1, HDEV.out.2, HF2.out, HCH2.out.mono fun i _ f => Or.inl f⟩
        go_wp2
        go_ret
        exact HFIN.out
end Go.Proofs.YteleknojohnlbaaGreat
