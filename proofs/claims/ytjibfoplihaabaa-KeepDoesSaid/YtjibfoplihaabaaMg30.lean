/-
  The document's own device (quartermasterref06), walked: FaultLose, FaultDrop, FaultBlank.
-/
import Derived.Test.YtjibfoplihaabaaMg29
namespace Go.Proofs.Ytjibfoplihaabaa
open Go.RowKit
set_option linter.unusedVariables false
set_option maxRecDepth 100000

/-! ### behind settle -/
structure AfR (base : Nat) (F : Nat → Prop) (w w2 : World) (H B : Nat) (E : Dev) (f : Fa) : Prop where
  dev : ∃ (F2 : Nat → Prop) (q2 : Rh), q2.B = B ∧ RefIs base F2 w2 q2 E ∧ ¬ F2 H ∧ ∀ i, F2 i → FX F w w2 i
  x : ∀ n i, (w2.drewN n).cell? ⟨H, i, none⟩ = (faC f)[i]?
  ch : Ch F w w2
theorem AfR.at {base : Nat} {F : Nat → Prop} {w w2 : World} {H B : Nat} {E : Dev} {f : Fa} (h : AfR base F w w2 H B E f) (i : Nat) : w2.cell? ⟨H, i, none⟩ = (faC f)[i]? := h.x 0 i
theorem FtR.settle {base : Nat} {F : Nat → Prop} {w w1 : World} {H : Nat} {q : Rh} {d : Dev} {f : Fa} (h : FtR base F w w1 H q d f) (hW : d.W.length ≤ 1048575) (k : Nat) (n : Nat) :
    Calls Try.prog 41 #[.pointer (some ⟨q.B, 0, none⟩), .int .i64 (k : Int)] (w1.drewN n) fun e w2 => e = .returned (.tuple #[]) ∧ AfR base F w w2 H q.B (settleD d k) f := by
  refine (rsettle_any base F q d k (w1.drewN n) (h.dev.gr ((Ch.refl _ w1).drewN n)) hW).mono ?_
  rintro e w2 ⟨rfl, q2, hq2, h2, hc2⟩
  have k1 : Ch F w (w1.drewN n) := h.ch.drewN n
  have hs : w1.heap.size = H + 1 := by rw [← h.al, ← h.sz]; simp
  refine ⟨rfl, ⟨_, q2, hq2, h2, fun e => ?_, fun i hi => ?_⟩, fun m i => ?_, k1.trans hc2⟩
  · rcases e with e | e
    · exact h.off e
    · have : w1.heap.size ≤ H := e.1
      omega
  · rcases hi with e | e
    · exact Or.inl e
    · exact Or.inr ⟨Nat.le_trans k1.size e.1, e.2⟩
  · have e : (w2.drewN m).cell? ⟨H, i, none⟩ = w2.cell? ⟨H, i, none⟩ := rfl
    rw [e, World.cell?_of_block (hc2.block H (show H < w1.heap.size by omega) h.off)]
    exact h.x n i
/-- The end. -/
theorem RefIs.end {base : Nat} {F F2 F3 : Nat → Prop} {w w2 w3 : World} {q3 : Rh} {d3 : Dev} {r : Value} (h3 : RefIs base F3 w3 q3 d3) (h2 : ∀ i, F2 i → FX F w w2 i) (hf : ∀ i, F3 i → FX F2 w2 w3 i) (k : Ch F w w2) (k2 : Ch F2 w2 w3) (hF : ∀ i, F i → base ≤ i ∧ i < w.heap.size) (hb : base ≤ w.heap.size) : RPost base F q3.B d3 r w (.returned r) w3 := by
  have k3 : Ch F w w3 := ⟨k2.os.trans k.os, k2.tape.trans k.tape, k2.output.trans k.output, Nat.le_trans k.size k2.size, fun i hi hS => by
    rw [k2.block i (Nat.lt_of_lt_of_le hi k.size) (fun e => by
      rcases h2 i e with q | q
      · exact hS q
      · omega)]
    exact k.block i hi hS⟩
  refine RPost.last h3 (fun i hi => ?_) hF k3 hb
  rcases hf i hi with e | e
  · rcases h2 i e with q | q
    · exact Or.inl q
    · exact Or.inr ⟨q.1, Nat.lt_of_lt_of_le q.2 k2.size⟩
  · exact Or.inr ⟨Nat.le_trans k.size e.1, e.2⟩
theorem in_hasB {d : Dev} {a : Int} (h : hasB d a = true) : ∃ k : Nat, a = (k : Int) ∧ k < d.n := by
  have := of_decide_eq_true h
  exact ⟨a.toNat, by omega, by omega⟩
/-! ### FaultLose -/
set_option maxHeartbeats 800000 in
set_option maxRecDepth 100000 in
theorem rfault_lose (base : Nat) (F : Nat → Prop) (q : Rh) (d : Dev) (f : Fa) (w : World) (h : RefIs base F w q d) (hf : FaOk f) (hb : hasB d f.pl = true) (hk : f.kind = 3) (hW : d.W.length ≤ 1048575) :
    Calls Try.prog 24 #[.pointer (some ⟨q.B, 0, none⟩), .agg (faC f)] w (RPost base F q.B (loseD d f.pl.toNat) (.int .i64 0) w) := by
  obtain ⟨k, hpl, hkn⟩ := in_hasB hb
  obtain ⟨w1, H, hR⟩ := ftR f h
  have c0 : w1.cell? ⟨q.B, 0, none⟩ = some (.slice (some ⟨q.G, 0, none⟩) d.n q.cG) := hR.dev.cellB 0
  have x0 : w1.cell? ⟨H, 0, none⟩ = some (.int .i64 3) := by rw [← hk]; exact hR.at 0
  have x1 : w1.cell? ⟨H, 1, none⟩ = some (.int .i64 (k : Int)) := by rw [← hpl]; exact hR.at 1
  rw [show f.pl.toNat = k by omega]
  have i1 : (0 : Int) ≤ (k : Int) := Int.natCast_nonneg _
  have i2 : (k : Int) < (d.n : Int) := by omega
  have hnn := h.nn
  have HR := Lib.hid hR
  have HK := Lib.hid hkn
  have HT := Lib.hid (fun n => hR.settle hW k n)
  have HPL := Lib.hid hpl
  clear h hR hf hb hk hW hpl hkn
  obtain ⟨B, G, L, P, Q, cG, cL, cP, cQ, V, s, X, m, lf⟩ := q
  go_enter Try.func24, Try.ntmps24
  go_wp2_with ((with_reducible refine wpList_same ?_); refine wpList_boxing _ w1 rfl 45 (.tmp 1) rfl (faC f) H rfl (by exact HR.out.sz) (by exact HR.out.al) ?_)
  go_quiet (fail)
  go_wp2_with fail
  refine (HT.out _).mono ?_
  rintro e w2 ⟨rfl, hA⟩
  have hn2 : (settleD d k).n = d.n := finAll_n _ _
  obtain ⟨F2, q2, hq2, h2, hH2, hF2⟩ := hA.dev
  have y1 : w2.cell? ⟨H, 1, none⟩ = some (.int .i64 (k : Int)) := by rw [← HPL.out]; exact hA.at 1
  have d1 : w2.cell? ⟨B, 1, none⟩ = some (.slice (some ⟨q2.L, 0, none⟩) (settleD d k).n q2.cL) := by have := h2.cellB 1; rw [hq2] at this; exact this
  rw [hn2] at d1
  have cl : w2.cell? ⟨q2.L, k, none⟩ = some (.bool ((settleD d k).lost k)) := h2.cellL (by rw [hn2]; exact HK.out)
  have fl := h2.los.frozen k
  have k2 : Ch F2 w2 (w2.setCell ⟨q2.L, k, none⟩ (.bool true)).drew := ((Ch.refl F2 w2).setCell (p := ⟨q2.L, k, none⟩) (Or.inl h2.fL) _).drew
  have hp := ((h2.setL (a := k) true).gr ((Ch.refl _ _).drew)).end (r := .int .i64 0) hF2 (fun i hi => Or.inl hi) hA.ch k2 HR.out.fl HR.out.le
  rw [hq2] at hp
  have HP := Lib.hid (show RPost base F B (loseD d k) (.int .i64 0) w (.returned (.int .i64 0)) (w2.setCell ⟨q2.L, k, none⟩ (.bool true)).drew from hp)
  obtain ⟨L2, hL2⟩ : ∃ L2, L2 = q2.L := ⟨_, rfl⟩
  rw [← hL2] at d1 cl fl HP
  clear hA h2 hq2 hn2 hH2 hF2 hp k2 hL2 x0 x1 c0 HT
  go_wp2
  go_region
  all_goals (go_wp2; go_ret; exact HP.out)
#print axioms rfault_lose
/-! ### FaultDrop -/
set_option maxHeartbeats 800000 in
set_option maxRecDepth 100000 in
theorem rfault_drop (base : Nat) (F : Nat → Prop) (q : Rh) (d : Dev) (f : Fa) (w : World) (h : RefIs base F w q d) (hf : FaOk f) (hb : hasB d f.pl = true) (hk : f.kind = 4) (hdr : ∀ a, d.drops a ≤ 1152921504606846976) :
    Calls Try.prog 24 #[.pointer (some ⟨q.B, 0, none⟩), .agg (faC f)] w (RPost base F q.B (dropD d f) (.int .i64 (dropE f)) w) := by
  obtain ⟨k, hpl, hkn⟩ := in_hasB hb
  obtain ⟨w1, H, hR⟩ := ftR f h
  have c0 : w1.cell? ⟨q.B, 0, none⟩ = some (.slice (some ⟨q.G, 0, none⟩) d.n q.cG) := hR.dev.cellB 0
  have c3 : w1.cell? ⟨q.B, 3, none⟩ = some (.slice (some ⟨q.P, 0, none⟩) d.n q.cP) := hR.dev.cellB 3
  have x0 : w1.cell? ⟨H, 0, none⟩ = some (.int .i64 4) := by rw [← hk]; exact hR.at 0
  have x1 : w1.cell? ⟨H, 1, none⟩ = some (.int .i64 (k : Int)) := by rw [← hpl]; exact hR.at 1
  have x3 : w1.cell? ⟨H, 3, none⟩ = some (.int .i64 f.n) := hR.at 3
  have i1 : (0 : Int) ≤ (k : Int) := Int.natCast_nonneg _
  have i2 : (k : Int) < (d.n : Int) := by omega
  have hnn := h.nn
  have hn := hf.n
  unfold I64 at hn
  have HR := Lib.hid hR
  by_cases hq : f.n < 1 ∨ 1000 < f.n
  · have hS : dropE f = 1 ∧ dropD d f = d := by unfold dropE dropD; rw [if_pos hq, if_pos hq]; exact ⟨rfl, rfl⟩
    rw [hS.1, hS.2]
    have HP := Lib.hid (hR.same (.int .i64 1))
    obtain ⟨B, G, L, P, Q, cG, cL, cP, cQ, V, s, X, m, lf⟩ := q
    clear h hR hf hb hk hdr hS hpl
    by_cases hq1 : f.n < 1
    · clear hq
      go_enter Try.func24, Try.ntmps24
      go_wp2_with ((with_reducible refine wpList_same ?_); refine wpList_boxing _ w1 rfl 45 (.tmp 1) rfl (faC f) H rfl (by exact HR.out.sz) (by exact HR.out.al) ?_)
      go_quiet (fail)
      go_wp2
      go_ret
      exact HP.out _
    · have hq2 : 1000 < f.n := by omega
      clear hq
      go_enter Try.func24, Try.ntmps24
      go_wp2_with ((with_reducible refine wpList_same ?_); refine wpList_boxing _ w1 rfl 45 (.tmp 1) rfl (faC f) H rfl (by exact HR.out.sz) (by exact HR.out.al) ?_)
      go_quiet (fail)
      go_wp2
      go_ret
      exact HP.out _
  · have hS : dropE f = 0 ∧ dropD d f = { d with drops := up d.drops k (d.drops k + f.n.toNat) } := by unfold dropE dropD; rw [if_neg hq, if_neg hq, hpl, Int.toNat_natCast]; exact ⟨rfl, rfl⟩
    rw [hS.1, hS.2]
    have hx : ((d.drops k + f.n.toNat : Nat) : Int) = (d.drops k : Int) + f.n := by omega
    have hdk := hdr k
    have cp : w1.cell? ⟨q.P, k, none⟩ = some (.int .i64 (d.drops k : Int)) := hR.dev.cellP hkn
    have fp := hR.dev.drp.frozen k
    have HD : Hid (∀ n, RPost base F q.B { d with drops := up d.drops k (d.drops k + f.n.toNat) } (.int .i64 0) w (.returned (.int .i64 0)) ((w1.drewN n).setCell ⟨q.P, k, none⟩ (.int .i64 ((d.drops k : Int) + f.n)))) := fun n => by
      rw [← hx]
      exact RPost.mk ((hR.dev.gr ((Ch.refl _ w1).drewN n)).setP (a := k) _) ((hR.ch.drewN n).setCell (p := ⟨q.P, k, none⟩) (Or.inl hR.dev.fP) _) hR.le
    obtain ⟨B, G, L, P, Q, cG, cL, cP, cQ, V, s, X, m, lf⟩ := q
    have hq1 : ¬ f.n < 1 := by omega
    have hq2 : ¬ 1000 < f.n := by omega
    have hs1 : (d.drops k : Int) + f.n ≤ 1152921504606847976 := by omega
    have hs2 : 0 ≤ (d.drops k : Int) + f.n := by omega
    clear h hR hf hb hk hdr hS hpl hq hx
    go_enter Try.func24, Try.ntmps24
    go_wp2_with ((with_reducible refine wpList_same ?_); refine wpList_boxing _ w1 rfl 45 (.tmp 1) rfl (faC f) H rfl (by exact HR.out.sz) (by exact HR.out.al) ?_)
    go_quiet (fail)
    go_wp2
    go_region
    all_goals (go_wp2; go_ret; exact HD.out _)
#print axioms rfault_drop
/-! ### FaultBlank -/
theorem make256 (w : World) : (Instr.makeSlice /-t-/47 (.int .i64 256) (.int .i64 256)).run Try.prog w = .ok (.slice (some ⟨w.heap.size, 0, none⟩) 256 256) (w.alloc (.cells (madeCells #[.int .u8 0] 256) /-t-/5)) := by
  obtain ⟨i0, hi, hz0, hz1, hz2⟩ := info_parts Try.info5
  have := run_make (P := Try.prog) w /-t-/47 /-t-/5 i0 (.int .u8 0) Try.underlying47 hi hz0 .i64 .i64 256 256 (by omega) (by omega) (by rw [hz2]; omega) (by omega)
  rw [hz1] at this
  exact this
theorem RefIs.blank {base : Nat} {F : Nat → Prop} {w : World} {q : Rh} {d : Dev} (h : RefIs base F w q d) (a : Nat) : RefIs base (FX F w (w.alloc (.cells (madeCells #[.int .u8 0] 256) /-t-/5))) ((w.alloc (.cells (madeCells #[.int .u8 0] 256) /-t-/5)).setCell ⟨q.G, a, none⟩ (.slice (some ⟨w.heap.size, 0, none⟩) 256 256)) { q with s := up q.s a (.slice (some ⟨w.heap.size, 0, none⟩) 256 256) } { d with has := up d.has a (fun _ => 0) } := by
  have k : Ch (fun _ => False) w (w.alloc (.cells (madeCells #[.int .u8 0] 256) /-t-/5)) := (Ch.refl _ w).alloc _ _
  have h1 := (h.gr k).grow h.le k.size
  refine h1.setS _ (fun _ => 0) (BRow.rowIs (World.rowIs_made w (.int .u8 0) 256 /-t-/5) (fun _ _ => by decide)) (fun i hi => ?_)
  injection hi with hi
  subst hi
  exact Or.inr ⟨Nat.le_refl _, by simp⟩
set_option maxHeartbeats 1600000 in
set_option maxRecDepth 100000 in
theorem rfault_blank (base : Nat) (F : Nat → Prop) (q : Rh) (d : Dev) (f : Fa) (w : World) (h : RefIs base F w q d) (hf : FaOk f) (hb : hasB d f.pl = true) (hk : f.kind = 2) (hW : d.W.length ≤ 1048575) :
    Calls Try.prog 24 #[.pointer (some ⟨q.B, 0, none⟩), .agg (faC f)] w (RPost base F q.B (blankD d f.pl.toNat) (.int .i64 0) w) := by
  obtain ⟨k, hpl, hkn⟩ := in_hasB hb
  obtain ⟨w1, H, hR⟩ := ftR f h
  have c0 : w1.cell? ⟨q.B, 0, none⟩ = some (.slice (some ⟨q.G, 0, none⟩) d.n q.cG) := hR.dev.cellB 0
  have x0 : w1.cell? ⟨H, 0, none⟩ = some (.int .i64 2) := by rw [← hk]; exact hR.at 0
  have x1 : w1.cell? ⟨H, 1, none⟩ = some (.int .i64 (k : Int)) := by rw [← hpl]; exact hR.at 1
  rw [show f.pl.toNat = k by omega]
  have i1 : (0 : Int) ≤ (k : Int) := Int.natCast_nonneg _
  have i2 : (k : Int) < (d.n : Int) := by omega
  have hnn := h.nn
  have HR := Lib.hid hR
  have HK := Lib.hid hkn
  have HT := Lib.hid (fun n => hR.settle hW k n)
  have HPL := Lib.hid hpl
  clear h hR hf hb hk hW hpl hkn
  obtain ⟨B, G, L, P, Q, cG, cL, cP, cQ, V, s, X, m, lf⟩ := q
  go_enter Try.func24, Try.ntmps24
  go_wp2_with ((with_reducible refine wpList_same ?_); refine wpList_boxing _ w1 rfl 45 (.tmp 1) rfl (faC f) H rfl (by exact HR.out.sz) (by exact HR.out.al) ?_)
  go_quiet (fail)
  go_wp2_with fail
  refine (HT.out _).mono ?_
  rintro e w2 ⟨rfl, hA⟩
  have hn2 : (settleD d k).n = d.n := finAll_n _ _
  obtain ⟨F2, q2, hq2, h2, hH2, hF2⟩ := hA.dev
  have y1 : w2.cell? ⟨H, 1, none⟩ = some (.int .i64 (k : Int)) := by rw [← HPL.out]; exact hA.at 1
  have d0 : w2.cell? ⟨B, 0, none⟩ = some (.slice (some ⟨q2.G, 0, none⟩) (settleD d k).n q2.cG) := by have := h2.cellB 0; rw [hq2] at this; exact this
  rw [hn2] at d0
  have cs : w2.cell? ⟨q2.G, k, none⟩ = some (q2.s k) := h2.cellS (by rw [hn2]; exact HK.out)
  have fs := h2.sec.frozen k
  have HA := Lib.hid hA
  have H2 := Lib.hid h2
  have HQ2 := Lib.hid hq2
  have HH2 := Lib.hid hH2
  have HF2 := Lib.hid hF2
  have HN2 := Lib.hid hn2
  have hmk := make256
  obtain ⟨G2, hG2⟩ : ∃ G2, G2 = q2.G := ⟨_, rfl⟩
  have HG2 := Lib.hid hG2
  rw [← hG2] at d0 cs fs
  have y1a := Lib.cell?_alloc_some (.cells (madeCells #[.int .u8 0] 256) /-t-/5) y1
  have d0a := Lib.cell?_alloc_some (.cells (madeCells #[.int .u8 0] 256) /-t-/5) d0
  have csa := Lib.cell?_alloc_some (.cells (madeCells #[.int .u8 0] 256) /-t-/5) cs
  have fsa : (w2.alloc (.cells (madeCells #[.int .u8 0] 256) /-t-/5)).frozen? ⟨G2, k, none⟩ = false := by rw [hG2]; exact (h2.gr ((Ch.refl _ w2).alloc _ _)).sec.frozen k
  clear hA h2 hq2 hn2 hH2 hF2 hG2 x0 x1 c0 HT
  go_wp2
  go_region
  all_goals
    go_wp2
    have h3 := (H2.out.blank k).gr ((Ch.refl _ _).drew)
    rw [← HG2.out] at h3
    have k3 : Ch F2 w2 (((w2.alloc (.cells (madeCells #[.int .u8 0] 256) /-t-/5)).setCell ⟨G2, k, none⟩ (.slice (some ⟨w2.heap.size, 0, none⟩) 256 256)).drew) := ((((Ch.refl F2 w2).alloc _ _).setCell (p := ⟨G2, k, none⟩) (Or.inl (by rw [HG2.out]; exact H2.out.fG)) _)).drew
    obtain ⟨wd, hwd⟩ : ∃ wd, wd = (((w2.alloc (.cells (madeCells #[.int .u8 0] 256) /-t-/5)).setCell ⟨G2, k, none⟩ (.slice (some ⟨w2.heap.size, 0, none⟩) 256 256)).drew) := ⟨_, rfl⟩
    rw [← hwd] at h3 k3
    rw [← hwd]
    have hs3 : (w2.alloc (.cells (madeCells #[.int .u8 0] 256) /-t-/5)).heap.size = wd.heap.size := by rw [hwd]; simp [World.setCell]
    have e1 : wd.cell? ⟨B, 1, none⟩ = some (.slice (some ⟨q2.L, 0, none⟩) (settleD d k).n q2.cL) := by have := h3.cellB 1; rw [show ({ q2 with s := up q2.s k (.slice (some ⟨w2.heap.size, 0, none⟩) 256 256) } : Rh).B = B from HQ2.out] at this; exact this
    rw [HN2.out] at e1
    have e2 : wd.cell? ⟨q2.L, k, none⟩ = some (.bool ((settleD d k).lost k)) := h3.cellL (by show k < (settleD d k).n; rw [HN2.out]; exact HK.out)
    have e3 : wd.frozen? ⟨q2.L, k, none⟩ = false := h3.los.frozen k
    have z1 : wd.cell? ⟨H, 1, none⟩ = some (.int .i64 (k : Int)) := k3.cell y1 HH2.out
    have hp := ((h3.setL (a := k) false).gr ((Ch.refl _ _).drew)).end (r := .int .i64 0) HF2.out (fun i hi => hi.elim Or.inl (fun e => Or.inr ⟨e.1, by have := e.2; rw [hs3] at this; simpa [World.setCell] using this⟩)) HA.out.ch (k3.trans (((Ch.refl F2 wd).setCell (p := ⟨q2.L, k, none⟩) (Or.inl H2.out.fL) _).drew)) HR.out.fl HR.out.le
    rw [show ({ q2 with s := up q2.s k (.slice (some ⟨w2.heap.size, 0, none⟩) 256 256) } : Rh).B = B from HQ2.out] at hp
    have HP := Lib.hid (show RPost base F B (blankD d k) (.int .i64 0) w (.returned (.int .i64 0)) (wd.setCell ⟨q2.L, k, none⟩ (.bool false)).drew from hp)
    obtain ⟨L2, hL2⟩ : ∃ L2, L2 = q2.L := ⟨_, rfl⟩
    rw [← hL2] at e1 e2 e3 HP
    clear h3 k3 hwd hs3 hp hL2 y1 y1a d0 d0a cs csa fs fsa hmk
    go_region
    all_goals (go_wp2; go_ret; exact HP.out)
#print axioms rfault_blank
end Go.Proofs.Ytjibfoplihaabaa
