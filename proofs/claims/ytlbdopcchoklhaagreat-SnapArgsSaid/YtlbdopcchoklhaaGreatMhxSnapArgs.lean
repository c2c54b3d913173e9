/-
  What SnapArgs needs besides.
-/
import Derived.Test.YtlbdopcchoklhaaGreatMh43
import Derived.Test.YtlbdopcchoklhaaGreatMh1
import Derived.Test.YtlbdopcchoklhaaGreatMh29
import Derived.Test.YtlbdopcchoklhaaGreatMh34
import Derived.Test.YtlbdopcchoklhaaGreatMh37
import Derived.Test.YtlbdopcchoklhaaGreatMh39
import Derived.ProofKit
import Derived.OpenShut
import Derived.SizedLaws
import Derived.Carry
namespace Go.Proofs.YtlbdopcchoklhaaGreat
open Go.ChangeShapes Go.WideShapes Go.ChangeAt Go.RowKit Go.Deep
set_option linter.unusedVariables false
set_option maxRecDepth 100000

theorem b8 {a : Int} (h : (Lit.int .u8 a).wf = true) : 0 ≤ a ∧ a < 256 := by have := bounds_u8 h; omega
section
variable {H : Type} {enc : TypeId × Value → H} {P : Program}
end

end Go.Proofs.YtlbdopcchoklhaaGreat

namespace Go.Proofs.YtlbdopcchoklhaaGreat
open Go.RowKit
set_option linter.unusedVariables false
set_option maxRecDepth 100000

theorem TryS.lims {d e : Dev} {P : PutP} {t k : Nat} (h : TryS d P t k e) : (Lim (kwD e P) (t + 3 * k + 1) ∧ LimM (kwD e P) (t + 3 * k + 1)) ∧ (Lim (kfD e P) (t + 3 * k + 1 + 1) ∧ LimM (kfD e P) (t + 3 * k + 1 + 1)) ∧ (Lim (krD e P) (t + 3 * (k + 1)) ∧ LimM (krD e P) (t + 3 * (k + 1))) := by
  have h1 := (near_write e P.pl P.n P.z).lim h.lim h.limM
  have h2 := (near_flush (kwD e P)).lim h1.1 h1.2
  have h3 := (near_read (kfD e P) P.pl).lim h2.1 h2.2
  exact ⟨h1, h2, h3⟩
section
variable {d e : Dev} {P : PutP} {t k : Nat}
theorem TryS.on (h : TryS d P t k e) (hk : k < 4) (q : writeE e P.pl P.n = 0) (q2 : flushE (kwD e P) = 0) (q3 : readE (kfD e P) P.pl = 0 ∨ readE (kfD e P) P.pl = 20) (q4 : readE (kfD e P) P.pl = 0 → eqB (readL (kfD e P) P.pl) P.n (readZ (kfD e P) P.pl) P.z = false) : TryS d P t (k + 1) (krD e P) := by
  obtain ⟨h1, h2⟩ := h.step hk
  have e3 : asP (kfD e P) P = false := by
    unfold asP
    by_cases w : readE (kfD e P) P.pl = 0
    · rw [q4 w, Bool.and_false]
    · rw [decide_eq_false w, Bool.false_and]
  have e1 : tryE e P = -1 := by unfold tryE; rw [if_pos q, if_pos q2, if_pos q3, e3]; rfl
  have e2 : tryD e P = krD e P := by unfold tryD; rw [if_pos q, if_pos q2]
  rw [e1, e2, if_pos rfl] at h1
  rw [e1, e2, if_pos rfl] at h2
  exact ⟨h1, h2, h.lims.2.2.1, h.lims.2.2.2⟩
end
end Go.Proofs.YtlbdopcchoklhaaGreat

namespace Go.Proofs.YtlbdopcchoklhaaGreat
open Go.RowKit
set_option linter.unusedVariables false
set_option maxRecDepth 100000
set_option linter.unusedSimpArgs false
attribute [local go_sem] Oper.semAt_some wide_fn wide_depth

set_option maxHeartbeats 3200000 in
theorem sputs_no (A : Option Addr) (l C : Nat) (vol : Int) (g : Ge) (a ep no : Int) (w : World) (h : ptsB vol g a ep no = false) : Calls Tryz.prog 13 #[.int .i64 vol, .agg (geC g), .int .i64 a, .int .i64 ep, .int .i64 no, .slice A l C] w (ErrPost 1 w) := by
  obtain ⟨w2, H, w6, Bv, Be, Bn, R, E, hR, ⟨e1, e2, e3, e4, e5⟩, hw6, hV⟩ := puV w vol ep no g
  have HR := Lib.hid hR
  have HV := Lib.hid hV
  have HQ := Lib.hid (And.intro e1 (And.intro e2 (And.intro e3 (And.intro e4 (And.intro e5 hw6)))))
  have HM := Lib.hid (fun w => snmay_any vol g a 0 ep no w)
  rw [show smayB vol g a 0 ep no = false from h] at HM
  clear hR hV e1 e2 e3 e4 e5 hw6 h
  go_enter Tryz.func13, Tryz.ntmps13
  go_upto_region 1 with (first | ((with_reducible refine wpList_isOp (.box 23 (.tmp 1)) rfl ?_); refine wpList_boxing _ w2 rfl 23 (.tmp 1) rfl (geC g) H rfl (by exact HR.out.sz) (by exact HR.out.al) ?_) | fail)
  obtain ⟨e1, e2, e3, e4, e5, hw6⟩ := HQ.out
  rw [← hw6, ← e5, ← e4, ← e3, ← e2, ← e1]
  clear e1 e2 e3 e4 e5 hw6
  have c1 : w6.cell? ⟨Bv, 0, none⟩ = some (.int .i64 vol) := blk_cell HV.out.v
  have c2 : w6.cell? ⟨H, 0, none⟩ = some (.int .i64 g.wal) := blk_cell HV.out.h
  have c3 : w6.cell? ⟨H, 1, none⟩ = some (.int .i64 g.st) := blk_cell HV.out.h
  have c4 : w6.cell? ⟨H, 2, none⟩ = some (.int .i64 g.k) := blk_cell HV.out.h
  have c5 : w6.cell? ⟨H, 3, none⟩ = some (.int .i64 g.m) := blk_cell HV.out.h
  have c6 : w6.cell? ⟨Be, 0, none⟩ = some (.int .i64 ep) := blk_cell HV.out.e
  have c7 : w6.cell? ⟨Bn, 0, none⟩ = some (.int .i64 no) := blk_cell HV.out.n
  go_wp2_with fail
  refine (HM.out _).mono ?_
  rintro e w7 ⟨rfl, hc7⟩
  have HV7 := Lib.hid (HV.out.gr hc7)
  have c8 : w7.cell? ⟨R, 0, none⟩ = some (.slice none 0 0) := blk_cell HV7.out.r
  have c9 : w7.cell? ⟨E, 0, none⟩ = some (.int .i64 0) := blk_cell HV7.out.x
  have f8 : w7.frozen? ⟨R, 0, none⟩ = false := blk_frozen HV7.out.r
  have f9 : w7.frozen? ⟨E, 0, none⟩ = false := blk_frozen HV7.out.x
  have HF := Lib.hid (HV7.out.fail 1)
  have n1 : ¬ R = E := by have := HV7.out.ord; omega
  have n2 : ¬ E = R := by have := HV7.out.ord; omega
  clear hc7 c1 c2 c3 c4 c5 c6 c7
  go_wp2
  exact bodyPost_ret (results_pts Tryz.results13 _ _ R E _ 1 rfl rfl HF.out.2.1 HF.out.2.2) rfl HF.out.1
set_option maxHeartbeats 3200000 in
theorem sputs_long (A : Option Addr) (l C : Nat) (vol ep no : Int) (n : Gn) (a : Nat) (w : World) (hn : n.Ok) (ha : a ≤ 1) (hv : 0 ≤ vol ∧ vol ≤ 4294967295) (he : 0 ≤ ep ∧ ep ≤ 4294967295) (ho : 0 ≤ no ∧ no ≤ 4294967295) (hl : n.S * n.K * 228 < l) (hl2 : l ≤ 140737488351232) :
    Calls Tryz.prog 13 #[.int .i64 vol, .agg (geC n.ge), .int .i64 (a : Int), .int .i64 ep, .int .i64 no, .slice A l C] w (ErrPost 2 w) := by
  obtain ⟨w2, H, w6, Bv, Be, Bn, R, E, hR, ⟨e1, e2, e3, e4, e5⟩, hw6, hV⟩ := puV w vol ep no n.ge
  have HR := Lib.hid hR
  have HV := Lib.hid hV
  have HQ := Lib.hid (And.intro e1 (And.intro e2 (And.intro e3 (And.intro e4 (And.intro e5 hw6)))))
  have HM := Lib.hid (fun w => snmay_any vol n.ge (a : Int) 0 ep no w)
  rw [pts_may hn ha hv he ho] at HM
  have HRM := Lib.hid (fun w => room_any n.ge w)
  rw [room_ge hn] at HRM
  obtain ⟨T, hT⟩ : ∃ T, T = n.S * n.K * 228 := ⟨_, rfl⟩
  rw [← hT] at HRM hl
  have t1 : (T : Int) < (l : Int) := by omega
  clear hR hV e1 e2 e3 e4 e5 hw6 hn ha hv he ho hl hT
  go_enter Tryz.func13, Tryz.ntmps13
  go_upto_region 1 with (first | ((with_reducible refine wpList_isOp (.box 23 (.tmp 1)) rfl ?_); refine wpList_boxing _ w2 rfl 23 (.tmp 1) rfl (geC n.ge) H rfl (by exact HR.out.sz) (by exact HR.out.al) ?_) | fail)
  obtain ⟨e1, e2, e3, e4, e5, hw6⟩ := HQ.out
  rw [← hw6, ← e5, ← e4, ← e3, ← e2, ← e1]
  clear e1 e2 e3 e4 e5 hw6
  have c1 : w6.cell? ⟨Bv, 0, none⟩ = some (.int .i64 vol) := blk_cell HV.out.v
  have c2 : w6.cell? ⟨H, 0, none⟩ = some (.int .i64 (n.W : Int)) := blk_cell HV.out.h
  have c3 : w6.cell? ⟨H, 1, none⟩ = some (.int .i64 (n.S : Int)) := blk_cell HV.out.h
  have c4 : w6.cell? ⟨H, 2, none⟩ = some (.int .i64 (n.K : Int)) := blk_cell HV.out.h
  have c5 : w6.cell? ⟨H, 3, none⟩ = some (.int .i64 (n.M : Int)) := blk_cell HV.out.h
  have c6 : w6.cell? ⟨Be, 0, none⟩ = some (.int .i64 ep) := blk_cell HV.out.e
  have c7 : w6.cell? ⟨Bn, 0, none⟩ = some (.int .i64 no) := blk_cell HV.out.n
  go_wp2_with fail
  refine (HM.out _).mono ?_
  rintro e w7 ⟨rfl, hc7⟩
  have HV7 := Lib.hid (HV.out.gr hc7)
  clear hc7 c1 c2 c3 c4 c5 c6 c7
  have c1 : w7.cell? ⟨Bv, 0, none⟩ = some (.int .i64 vol) := blk_cell HV7.out.v
  have c2 : w7.cell? ⟨H, 0, none⟩ = some (.int .i64 (n.W : Int)) := blk_cell HV7.out.h
  have c3 : w7.cell? ⟨H, 1, none⟩ = some (.int .i64 (n.S : Int)) := blk_cell HV7.out.h
  have c4 : w7.cell? ⟨H, 2, none⟩ = some (.int .i64 (n.K : Int)) := blk_cell HV7.out.h
  have c5 : w7.cell? ⟨H, 3, none⟩ = some (.int .i64 (n.M : Int)) := blk_cell HV7.out.h
  have c6 : w7.cell? ⟨Be, 0, none⟩ = some (.int .i64 ep) := blk_cell HV7.out.e
  have c7 : w7.cell? ⟨Bn, 0, none⟩ = some (.int .i64 no) := blk_cell HV7.out.n
  go_wp2_with fail
  refine (HRM.out _).mono ?_
  rintro e w8 ⟨rfl, hc8⟩
  have HV8 := Lib.hid (HV7.out.gr hc8)
  have c8 : w8.cell? ⟨R, 0, none⟩ = some (.slice none 0 0) := blk_cell HV8.out.r
  have c9 : w8.cell? ⟨E, 0, none⟩ = some (.int .i64 0) := blk_cell HV8.out.x
  have f8 : w8.frozen? ⟨R, 0, none⟩ = false := blk_frozen HV8.out.r
  have f9 : w8.frozen? ⟨E, 0, none⟩ = false := blk_frozen HV8.out.x
  have HF := Lib.hid (HV8.out.fail 2)
  have n1 : ¬ R = E := by have := HV8.out.ord; omega
  have n2 : ¬ E = R := by have := HV8.out.ord; omega
  clear hc8 c1 c2 c3 c4 c5 c6 c7
  go_wp2
  exact bodyPost_ret (results_pts Tryz.results13 _ _ R E _ 2 rfl rfl HF.out.2.1 HF.out.2.2) rfl HF.out.1
end Go.Proofs.YtlbdopcchoklhaaGreat

namespace Go.Proofs.YtlbdopcchoklhaaGreat
open Go.RowKit
set_option linter.unusedVariables false
set_option maxRecDepth 100000
set_option linter.unusedSimpArgs false

set_option maxHeartbeats 3200000 in
theorem swrite_err (D : Option Addr) (A : Option Addr) (l C : Nat) (vol ep no : Int) (g : Ge) (a : Int) (w : World) (k : Int) (hk : k = 1 ∨ k = 2) (hP : ∀ w, Calls Tryz.prog 13 #[.int .i64 vol, .agg (geC g), .int .i64 a, .int .i64 ep, .int .i64 no, .slice A l C] w (ErrPost k w)) :
    Calls Tryz.prog 20 #[.pointer D, .int .i64 vol, .agg (geC g), .int .i64 a, .int .i64 ep, .int .i64 no, .slice A l C] w (Ans (.int .i64 k) w) := by
  obtain ⟨w1, H, hR⟩ := geR w g
  have HR := Lib.hid hR
  obtain ⟨x0, x1, x2, x3⟩ := hR.x
  have HPU := Lib.hid (hP w1)
  clear hR hP
  rcases hk with rfl | rfl
  all_goals (
    go_enter Tryz.func20, Tryz.ntmps20
    go_wp2_with (first | ((with_reducible refine wpList_isOp (.box 23 (.tmp 2)) rfl ?_); refine wpList_boxing _ w1 rfl 23 (.tmp 2) rfl (geC g) H rfl (by exact HR.out.sz) (by exact HR.out.al) ?_) | fail)
    refine HPU.out.mono ?_
    rintro e w2 ⟨rfl, hc2⟩
    have HC := Lib.hid (HR.out.ch.trans hc2)
    clear hc2 x0 x1 x2 x3
    go_wp2
    go_ret
    exact ⟨rfl, HC.out⟩)
end Go.Proofs.YtlbdopcchoklhaaGreat

namespace Go.Proofs.YtlbdopcchoklhaaGreat
open Go.RowKit
set_option linter.unusedVariables false
set_option maxRecDepth 100000
set_option linter.unusedSimpArgs false
attribute [local go_sem] Oper.semAt_some wide_fn wide_depth

set_option maxHeartbeats 3200000 in
theorem sread_no (P : Option Addr) (vol : Int) (g : Ge) (a no long : Int) (w : World) (h : smayB vol g a 0 0 no = false) : Calls Tryz.prog 22 #[.pointer P, .int .i64 vol, .agg (geC g), .int .i64 a, .int .i64 no, .int .i64 long] w (ErrPost 1 w) := by
  obtain ⟨w2, H, w6, Bp, Bv, Ba, Bn, R, E, hR, ⟨e1, e2, e3, e4, e5, e6⟩, hw6, hV⟩ := reV w P vol a no g
  have HR := Lib.hid hR
  have HV := Lib.hid hV
  have HQ := Lib.hid (And.intro e1 (And.intro e2 (And.intro e3 (And.intro e4 (And.intro e5 (And.intro e6 hw6))))))
  have HM := Lib.hid (fun w => snmay_any vol g a 0 0 no w)
  rw [h] at HM
  clear hR hV e1 e2 e3 e4 e5 e6 hw6 h
  go_enter Tryz.func22, Tryz.ntmps22
  go_upto_region 1 with (first | ((with_reducible refine wpList_isOp (.box 23 (.tmp 2)) rfl ?_); refine wpList_boxing _ w2 rfl 23 (.tmp 2) rfl (geC g) H rfl (by exact HR.out.sz) (by exact HR.out.al) ?_) | fail)
  obtain ⟨e1, e2, e3, e4, e5, e6, hw6⟩ := HQ.out
  rw [← hw6, ← e6, ← e5, ← e4, ← e3, ← e2, ← e1]
  clear e1 e2 e3 e4 e5 e6 hw6
  have cp : w6.cell? ⟨Bp, 0, none⟩ = some (.pointer P) := blk_cell HV.out.p
  have cv : w6.cell? ⟨Bv, 0, none⟩ = some (.int .i64 vol) := blk_cell HV.out.v
  have ch0 : w6.cell? ⟨H, 0, none⟩ = some (.int .i64 g.wal) := blk_cell HV.out.h
  have ch1 : w6.cell? ⟨H, 1, none⟩ = some (.int .i64 g.st) := blk_cell HV.out.h
  have ch2 : w6.cell? ⟨H, 2, none⟩ = some (.int .i64 g.k) := blk_cell HV.out.h
  have ch3 : w6.cell? ⟨H, 3, none⟩ = some (.int .i64 g.m) := blk_cell HV.out.h
  have ca : w6.cell? ⟨Ba, 0, none⟩ = some (.int .i64 a) := blk_cell HV.out.a
  have cn : w6.cell? ⟨Bn, 0, none⟩ = some (.int .i64 no) := blk_cell HV.out.n
  go_wp2_with fail
  refine (HM.out _).mono ?_
  rintro e w7 ⟨rfl, hc7⟩
  have HV7 := Lib.hid (HV.out.gr hc7)
  have c8 : w7.cell? ⟨R, 0, none⟩ = some (.slice none 0 0) := blk_cell HV7.out.r
  have c9 : w7.cell? ⟨E, 0, none⟩ = some (.int .i64 0) := blk_cell HV7.out.x
  have f8 : w7.frozen? ⟨R, 0, none⟩ = false := blk_frozen HV7.out.r
  have f9 : w7.frozen? ⟨E, 0, none⟩ = false := blk_frozen HV7.out.x
  have HF := Lib.hid (HV7.out.fail 1)
  have n1 : ¬ R = E := by have := HV7.out.ord; omega
  have n2 : ¬ E = R := by have := HV7.out.ord; omega
  clear hc7 cp cv ch0 ch1 ch2 ch3 ca cn
  go_wp2
  exact bodyPost_ret (results_rd Tryz.results22 _ _ R E _ 1 rfl rfl HF.out.2.1 HF.out.2.2) rfl HF.out.1
set_option maxHeartbeats 3200000 in
theorem sread_long (P : Option Addr) (vol : Int) (n : Gn) (a no long : Int) (w : World) (hn : n.Ok) (h : smayB vol n.ge a 0 0 no = true) (hl : ¬ (0 ≤ long ∧ long ≤ ((n.S * n.K * 228 : Nat) : Int))) : Calls Tryz.prog 22 #[.pointer P, .int .i64 vol, .agg (geC n.ge), .int .i64 a, .int .i64 no, .int .i64 long] w (ErrPost 1 w) := by
  obtain ⟨w2, H, w6, Bp, Bv, Ba, Bn, R, E, hR, ⟨e1, e2, e3, e4, e5, e6⟩, hw6, hV⟩ := reV w P vol a no n.ge
  have HR := Lib.hid hR
  have HV := Lib.hid hV
  have HQ := Lib.hid (And.intro e1 (And.intro e2 (And.intro e3 (And.intro e4 (And.intro e5 (And.intro e6 hw6))))))
  have HM := Lib.hid (fun w => snmay_any vol n.ge a 0 0 no w)
  rw [h] at HM
  have HRM := Lib.hid (fun w => room_any n.ge w)
  rw [room_ge hn] at HRM
  obtain ⟨T, hT⟩ : ∃ T, T = n.S * n.K * 228 := ⟨_, rfl⟩
  rw [← hT] at HRM hl
  have HW := Lib.hid (fun w => swn_any long 0 (T : Int) w)
  rw [show inB long 0 (T : Int) = false from decide_eq_false hl] at HW
  clear hR hV e1 e2 e3 e4 e5 e6 hw6 h hl hn hT
  go_enter Tryz.func22, Tryz.ntmps22
  go_upto_region 1 with (first | ((with_reducible refine wpList_isOp (.box 23 (.tmp 2)) rfl ?_); refine wpList_boxing _ w2 rfl 23 (.tmp 2) rfl (geC n.ge) H rfl (by exact HR.out.sz) (by exact HR.out.al) ?_) | fail)
  obtain ⟨e1, e2, e3, e4, e5, e6, hw6⟩ := HQ.out
  rw [← hw6, ← e6, ← e5, ← e4, ← e3, ← e2, ← e1]
  clear e1 e2 e3 e4 e5 e6 hw6
  have cp : w6.cell? ⟨Bp, 0, none⟩ = some (.pointer P) := blk_cell HV.out.p
  have cv : w6.cell? ⟨Bv, 0, none⟩ = some (.int .i64 vol) := blk_cell HV.out.v
  have ch0 : w6.cell? ⟨H, 0, none⟩ = some (.int .i64 (n.W : Int)) := blk_cell HV.out.h
  have ch1 : w6.cell? ⟨H, 1, none⟩ = some (.int .i64 (n.S : Int)) := blk_cell HV.out.h
  have ch2 : w6.cell? ⟨H, 2, none⟩ = some (.int .i64 (n.K : Int)) := blk_cell HV.out.h
  have ch3 : w6.cell? ⟨H, 3, none⟩ = some (.int .i64 (n.M : Int)) := blk_cell HV.out.h
  have ca : w6.cell? ⟨Ba, 0, none⟩ = some (.int .i64 a) := blk_cell HV.out.a
  have cn : w6.cell? ⟨Bn, 0, none⟩ = some (.int .i64 no) := blk_cell HV.out.n
  go_wp2_with fail
  refine (HM.out _).mono ?_
  rintro e w7 ⟨rfl, hc7⟩
  have HV7 := Lib.hid (HV.out.gr hc7)
  clear hc7 cp cv ch0 ch1 ch2 ch3 ca cn
  have cp : w7.cell? ⟨Bp, 0, none⟩ = some (.pointer P) := blk_cell HV7.out.p
  have cv : w7.cell? ⟨Bv, 0, none⟩ = some (.int .i64 vol) := blk_cell HV7.out.v
  have ch0 : w7.cell? ⟨H, 0, none⟩ = some (.int .i64 (n.W : Int)) := blk_cell HV7.out.h
  have ch1 : w7.cell? ⟨H, 1, none⟩ = some (.int .i64 (n.S : Int)) := blk_cell HV7.out.h
  have ch2 : w7.cell? ⟨H, 2, none⟩ = some (.int .i64 (n.K : Int)) := blk_cell HV7.out.h
  have ch3 : w7.cell? ⟨H, 3, none⟩ = some (.int .i64 (n.M : Int)) := blk_cell HV7.out.h
  have ca : w7.cell? ⟨Ba, 0, none⟩ = some (.int .i64 a) := blk_cell HV7.out.a
  have cn : w7.cell? ⟨Bn, 0, none⟩ = some (.int .i64 no) := blk_cell HV7.out.n
  go_wp2_with fail
  refine (HRM.out _).mono ?_
  rintro e w8 ⟨rfl, hc8⟩
  have HV8 := Lib.hid (HV7.out.gr hc8)
  have c8 : w8.cell? ⟨R, 0, none⟩ = some (.slice none 0 0) := blk_cell HV8.out.r
  have c9 : w8.cell? ⟨E, 0, none⟩ = some (.int .i64 0) := blk_cell HV8.out.x
  have f8 : w8.frozen? ⟨R, 0, none⟩ = false := blk_frozen HV8.out.r
  have f9 : w8.frozen? ⟨E, 0, none⟩ = false := blk_frozen HV8.out.x
  have HF := Lib.hid (HV8.out.fail 1)
  have n1 : ¬ R = E := by have := HV8.out.ord; omega
  have n2 : ¬ E = R := by have := HV8.out.ord; omega
  clear hc8 cp cv ch0 ch1 ch2 ch3 ca cn
  go_wp2_with fail
  refine (HW.out _).mono ?_
  rintro e w9 ⟨rfl, rfl⟩
  go_wp2
  exact bodyPost_ret (results_rd Tryz.results22 _ _ R E _ 1 rfl rfl HF.out.2.1 HF.out.2.2) rfl HF.out.1
set_option maxHeartbeats 3200000 in
theorem sread_nil (vol : Int) (n : Gn) (a no : Int) (long : Nat) (w : World) (hn : n.Ok) (h : smayB vol n.ge a 0 0 no = true) (hl : long ≤ n.S * n.K * 228) : Calls Tryz.prog 22 #[.pointer none, .int .i64 vol, .agg (geC n.ge), .int .i64 a, .int .i64 no, .int .i64 (long : Int)] w (ErrPost 21 w) := by
  obtain ⟨w2, H, w6, Bp, Bv, Ba, Bn, R, E, hR, ⟨e1, e2, e3, e4, e5, e6⟩, hw6, hV⟩ := reV w none vol a no n.ge
  have HR := Lib.hid hR
  have HV := Lib.hid hV
  have HQ := Lib.hid (And.intro e1 (And.intro e2 (And.intro e3 (And.intro e4 (And.intro e5 (And.intro e6 hw6))))))
  have HM := Lib.hid (fun w => snmay_any vol n.ge a 0 0 no w)
  rw [h] at HM
  have HRM := Lib.hid (fun w => room_any n.ge w)
  rw [room_ge hn] at HRM
  obtain ⟨T, hT⟩ : ∃ T, T = n.S * n.K * 228 := ⟨_, rfl⟩
  rw [← hT] at HRM hl
  have HW := Lib.hid (fun w => swn_any (long : Int) 0 (T : Int) w)
  rw [show inB (long : Int) 0 (T : Int) = true from decide_eq_true (by omega)] at HW
  clear hR hV e1 e2 e3 e4 e5 e6 hw6 h hl hn hT
  go_enter Tryz.func22, Tryz.ntmps22
  go_upto_region 1 with (first | ((with_reducible refine wpList_isOp (.box 23 (.tmp 2)) rfl ?_); refine wpList_boxing _ w2 rfl 23 (.tmp 2) rfl (geC n.ge) H rfl (by exact HR.out.sz) (by exact HR.out.al) ?_) | fail)
  obtain ⟨e1, e2, e3, e4, e5, e6, hw6⟩ := HQ.out
  rw [← hw6, ← e6, ← e5, ← e4, ← e3, ← e2, ← e1]
  clear e1 e2 e3 e4 e5 e6 hw6
  have cp : w6.cell? ⟨Bp, 0, none⟩ = some (.pointer none) := blk_cell HV.out.p
  have cv : w6.cell? ⟨Bv, 0, none⟩ = some (.int .i64 vol) := blk_cell HV.out.v
  have ch0 : w6.cell? ⟨H, 0, none⟩ = some (.int .i64 (n.W : Int)) := blk_cell HV.out.h
  have ch1 : w6.cell? ⟨H, 1, none⟩ = some (.int .i64 (n.S : Int)) := blk_cell HV.out.h
  have ch2 : w6.cell? ⟨H, 2, none⟩ = some (.int .i64 (n.K : Int)) := blk_cell HV.out.h
  have ch3 : w6.cell? ⟨H, 3, none⟩ = some (.int .i64 (n.M : Int)) := blk_cell HV.out.h
  have ca : w6.cell? ⟨Ba, 0, none⟩ = some (.int .i64 a) := blk_cell HV.out.a
  have cn : w6.cell? ⟨Bn, 0, none⟩ = some (.int .i64 no) := blk_cell HV.out.n
  go_wp2_with fail
  refine (HM.out _).mono ?_
  rintro e w7 ⟨rfl, hc7⟩
  have HV7 := Lib.hid (HV.out.gr hc7)
  clear hc7 cp cv ch0 ch1 ch2 ch3 ca cn
  have cp : w7.cell? ⟨Bp, 0, none⟩ = some (.pointer none) := blk_cell HV7.out.p
  have cv : w7.cell? ⟨Bv, 0, none⟩ = some (.int .i64 vol) := blk_cell HV7.out.v
  have ch0 : w7.cell? ⟨H, 0, none⟩ = some (.int .i64 (n.W : Int)) := blk_cell HV7.out.h
  have ch1 : w7.cell? ⟨H, 1, none⟩ = some (.int .i64 (n.S : Int)) := blk_cell HV7.out.h
  have ch2 : w7.cell? ⟨H, 2, none⟩ = some (.int .i64 (n.K : Int)) := blk_cell HV7.out.h
  have ch3 : w7.cell? ⟨H, 3, none⟩ = some (.int .i64 (n.M : Int)) := blk_cell HV7.out.h
  have ca : w7.cell? ⟨Ba, 0, none⟩ = some (.int .i64 a) := blk_cell HV7.out.a
  have cn : w7.cell? ⟨Bn, 0, none⟩ = some (.int .i64 no) := blk_cell HV7.out.n
  go_wp2_with fail
  refine (HRM.out _).mono ?_
  rintro e w8 ⟨rfl, hc8⟩
  have HV8 := Lib.hid (HV7.out.gr hc8)
  have cp8 : w8.cell? ⟨Bp, 0, none⟩ = some (.pointer none) := blk_cell HV8.out.p
  have c8 : w8.cell? ⟨R, 0, none⟩ = some (.slice none 0 0) := blk_cell HV8.out.r
  have c9 : w8.cell? ⟨E, 0, none⟩ = some (.int .i64 0) := blk_cell HV8.out.x
  have f8 : w8.frozen? ⟨R, 0, none⟩ = false := blk_frozen HV8.out.r
  have f9 : w8.frozen? ⟨E, 0, none⟩ = false := blk_frozen HV8.out.x
  have HF := Lib.hid (HV8.out.fail 21)
  have n1 : ¬ R = E := by have := HV8.out.ord; omega
  have n2 : ¬ E = R := by have := HV8.out.ord; omega
  clear hc8 cp cv ch0 ch1 ch2 ch3 ca cn
  go_wp2_with fail
  refine (HW.out _).mono ?_
  rintro e w9 ⟨rfl, rfl⟩
  go_wp2
  exact bodyPost_ret (results_rd Tryz.results22 _ _ R E _ 21 rfl rfl HF.out.2.1 HF.out.2.2) rfl HF.out.1
end Go.Proofs.YtlbdopcchoklhaaGreat

namespace Go.Proofs.YtlbdopcchoklhaaGreat
open Go.RowKit
set_option linter.unusedVariables false
set_option maxRecDepth 100000
set_option linter.unusedSimpArgs false

theorem blank_d {vol : Int} {g : Ge} {w : World} {e : Ending} {w' : World} (h : BlankPost11 vol g w e w') : ∃ D, e = .returned (.pointer D) ∧ Ch (fun _ => False) w w' ∧ (blkOk vol g = false → D = none) := by
  cases hb : blkOk vol g with
  | false =>
    obtain ⟨h1, h2⟩ := h.1 hb
    exact ⟨_, h1, h2, fun _ => rfl⟩
  | true =>
    have hm : mayG g = true := by unfold blkOk at hb; exact (Bool.and_eq_true_iff.1 hb).1
    obtain ⟨n, hn, rfl⟩ := may_nat hm
    obtain ⟨B, h1, h2⟩ := h.2 n hb rfl
    exact ⟨_, h1, h2.ch, fun f => by cases f⟩
/-- A geometry that is small, and has a blank device. -/
theorem sml_nat {g : Ge} (hs : smlB g = true) (hb : blkOk 7 g = true) : ∃ n : Gn, n.Ok ∧ g = n.ge ∧ n.S ≤ 3 ∧ n.K ≤ 4 ∧ n.M ≤ 3 ∧ n.W ≤ 16 := by
  have hm : mayG g = true := by unfold blkOk at hb; exact (Bool.and_eq_true_iff.1 hb).1
  obtain ⟨n, hn, rfl⟩ := may_nat hm
  unfold smlB at hs
  simp only [Bool.and_eq_true, decide_eq_true_eq] at hs
  obtain ⟨h1, h2, h3, h4⟩ := hs
  have h1 : (n.W : Int) ≤ 16 := h1
  have h2 : (n.S : Int) ≤ 3 := h2
  have h3 : (n.K : Int) ≤ 4 := h3
  have h4 : (n.M : Int) ≤ 3 := h4
  exact ⟨n, hn, rfl, by omega, by omega, by omega, by omega⟩
set_option maxHeartbeats 6400000 in
theorem snapArgs_off (g : Ge) (a no long : Int) (w : World) (h : smlB g = false ∨ (smlB g = true ∧ blkOk 7 g = false)) : Calls Tryz.prog 7 #[.agg (geC g), .int .i64 a, .int .i64 no, .int .i64 long] w (Told w) := by
  obtain ⟨w1, H, hR⟩ := geR w g
  obtain ⟨x0, x1, x2, x3⟩ := hR.x
  have HR := Lib.hid hR
  have HX := Lib.hid hR.x
  have HUP := Lib.hid (fun w => snawake_any w)
  have HSM := Lib.hid (fun w => small12_any g w)
  have HBK := Lib.hid (fun w => lawBlank_any 7 g w ⟨by omega, by omega⟩)
  obtain ⟨sm, hsm⟩ : ∃ sm, sm = smlB g := ⟨_, rfl⟩
  rw [← hsm] at HSM h
  have HH := Lib.hid h
  clear hR hsm h
  go_enter Tryz.func7, Tryz.ntmps7
  go_wp2_with (first | ((with_reducible refine wpList_isOp (.box 23 (.tmp 0)) rfl ?_); refine wpList_boxing _ w1 rfl 23 (.tmp 0) rfl (geC g) H rfl (by exact HR.out.sz) (by exact HR.out.al) ?_) | fail)
  refine (HUP.out _).mono ?_
  rintro e w2 ⟨rfl, hc2⟩
  have HC2 := Lib.hid (HR.out.ch.trans hc2)
  clear x0 x1 x2 x3
  obtain ⟨x0, x1, x2, x3⟩ := HX.out.gr hc2
  have HX2 := Lib.hid (HX.out.gr hc2)
  clear hc2
  go_wp2_with fail
  refine (HSM.out _).mono ?_
  rintro e w3 ⟨rfl, hc3⟩
  have HC3 := Lib.hid (HC2.out.trans hc3)
  clear x0 x1 x2 x3
  obtain ⟨x0, x1, x2, x3⟩ := HX2.out.gr hc3
  clear hc3
  go_wp2_with fail
  refine (HBK.out _).mono ?_
  rintro e w4 hb
  obtain ⟨D, rfl, hc4, hD⟩ := blank_d hb
  have HC4 := Lib.hid (HC3.out.trans hc4)
  have HD := Lib.hid hD
  clear hb hc4 hD x0 x1 x2 x3
  rcases HH.out with rfl | ⟨rfl, hf⟩
  · go_wp2
    go_ret
    exact ⟨rfl, HC4.out⟩
  · obtain rfl := HD.out hf
    clear hf
    go_wp2
    go_ret
    exact ⟨rfl, HC4.out⟩
set_option maxHeartbeats 12800000 in
theorem snapArgs_no (n : Gn) (a no long : Int) (w : World) (hs : smlB n.ge = true) (hb : blkOk 7 n.ge = true)
    (h : a < 0 ∨ (0 ≤ a ∧ 1 < a) ∨ (0 ≤ a ∧ a ≤ 1 ∧ no < 0) ∨ (0 ≤ a ∧ a ≤ 1 ∧ 0 ≤ no ∧ 4294967295 < no)) : Calls Tryz.prog 7 #[.agg (geC n.ge), .int .i64 a, .int .i64 no, .int .i64 long] w (Told w) := by
  obtain ⟨w1, H, hR⟩ := geR w n.ge
  obtain ⟨x0, x1, x2, x3⟩ := hR.x
  have hpt : frsB n.ge a 0 = false ∨ wordB no = false := by
    rcases h with h | h | h | h
    · exact Or.inl (by unfold frsB; rw [show decide (0 ≤ a ∧ a ≤ 1) = false from decide_eq_false (by omega)]; simp)
    · exact Or.inl (by unfold frsB; rw [show decide (0 ≤ a ∧ a ≤ 1) = false from decide_eq_false (by omega)]; simp)
    · exact Or.inr (decide_eq_false (by omega))
    · exact Or.inr (decide_eq_false (by omega))
  have hp1 : ptsB 7 n.ge a 0 no = false := by unfold ptsB; rcases hpt with e | e <;> rw [e] <;> simp
  have hp2 : smayB 7 n.ge a 0 0 no = false := by unfold smayB; rcases hpt with e | e <;> rw [e] <;> simp
  have HR := Lib.hid hR
  have HX := Lib.hid hR.x
  have HUP := Lib.hid (fun w => snawake_any w)
  have HSM := Lib.hid (fun w => small12_any n.ge w)
  rw [hs] at HSM
  have HBK := Lib.hid (fun w => lawBlank_any 7 n.ge w ⟨by omega, by omega⟩)
  have HBO := Lib.hid hb
  have HWE := Lib.hid (fun (D : Option Addr) w => swrite_err D none 0 0 7 0 no n.ge a w 1 (Or.inl rfl) fun w => sputs_no none 0 0 7 n.ge a 0 no w hp1)
  have HRE := Lib.hid (fun (D : Option Addr) w => sread_no D 7 n.ge a no 0 w hp2)
  have HH := Lib.hid h
  clear hR hs hb h hpt hp1 hp2
  go_enter Tryz.func7, Tryz.ntmps7
  go_wp2_with (first | ((with_reducible refine wpList_isOp (.box 23 (.tmp 0)) rfl ?_); refine wpList_boxing _ w1 rfl 23 (.tmp 0) rfl (geC n.ge) H rfl (by exact HR.out.sz) (by exact HR.out.al) ?_) | fail)
  refine (HUP.out _).mono ?_
  rintro e w2 ⟨rfl, hc2⟩
  have HC2 := Lib.hid (HR.out.ch.trans hc2)
  clear x0 x1 x2 x3
  obtain ⟨x0, x1, x2, x3⟩ := HX.out.gr hc2
  have HX2 := Lib.hid (HX.out.gr hc2)
  clear hc2
  go_wp2_with fail
  refine (HSM.out _).mono ?_
  rintro e w3 ⟨rfl, hc3⟩
  have HC3 := Lib.hid (HC2.out.trans hc3)
  clear x0 x1 x2 x3
  obtain ⟨x0, x1, x2, x3⟩ := HX2.out.gr hc3
  have HX3 := Lib.hid (HX2.out.gr hc3)
  clear hc3
  go_wp2_with fail
  refine (HBK.out _).mono ?_
  rintro e w4 hb
  obtain ⟨B, rfl, hO⟩ := hb.2 n HBO.out rfl
  obtain ⟨d, hd⟩ : ∃ d, d = bkD 7 (secsG n) := ⟨_, rfl⟩
  rw [← hd] at hO
  have hO : One w3 B d w4 := hO
  have h4 : OneX w3 (fun _ => False) B d w4 := ⟨hO.1, by obtain ⟨p, hp, hd⟩ := hO.2; exact ⟨p, hp, hd, fun i f => f.elim⟩, fun i f => f.elim⟩
  have H4 := Lib.hid h4
  have HOP := Lib.hid h4.ops
  obtain ⟨o, ho⟩ : ∃ o, o = d.ops := ⟨_, rfl⟩
  rw [← ho] at HOP
  have HO := Lib.hid ho
  clear x0 x1 x2 x3
  obtain ⟨x0, x1, x2, x3⟩ := HX3.out.gr h4.ch
  clear hb hO h4 hd ho
  go_wp2_with fail
  refine HOP.out.mono ?_
  rintro e w5 ⟨rfl, rfl⟩
  go_wp2_with fail
  refine (HWE.out _ _).mono ?_
  rintro e w6 ⟨rfl, hc6⟩
  have H6 := Lib.hid (H4.out.gr hc6)
  clear hc6 x0 x1 x2 x3
  obtain ⟨x0, x1, x2, x3⟩ := HX3.out.gr H6.out.ch
  rcases HH.out with h1 | ⟨h1, h2⟩ | ⟨h1, h2, h3⟩ | ⟨h1, h2, h3, h4⟩
  · have k1 : ¬ 0 ≤ a := by omega
    go_wp2_with fail
    refine (HRE.out _ _).mono ?_
    rintro e w7 ⟨rfl, hc7⟩
    have H7 := Lib.hid (H6.out.gr hc7)
    have HOP7 := Lib.hid H7.out.ops
    rw [← HO.out] at HOP7
    have HF := Lib.hid (HC3.out.trans H7.out.ch)
    clear hc7 x0 x1 x2 x3
    go_wp2_with fail
    refine HOP7.out.mono ?_
    rintro e w8 ⟨rfl, rfl⟩
    go_wp2
    go_ret
    exact ⟨rfl, HF.out⟩
  · have k2 : ¬ a ≤ 1 := by omega
    go_wp2_with fail
    refine (HRE.out _ _).mono ?_
    rintro e w7 ⟨rfl, hc7⟩
    have H7 := Lib.hid (H6.out.gr hc7)
    have HOP7 := Lib.hid H7.out.ops
    rw [← HO.out] at HOP7
    have HF := Lib.hid (HC3.out.trans H7.out.ch)
    clear hc7 x0 x1 x2 x3
    go_wp2_with fail
    refine HOP7.out.mono ?_
    rintro e w8 ⟨rfl, rfl⟩
    go_wp2
    go_ret
    exact ⟨rfl, HF.out⟩
  · have k3 : ¬ 0 ≤ no := by omega
    go_wp2_with fail
    refine (HRE.out _ _).mono ?_
    rintro e w7 ⟨rfl, hc7⟩
    have H7 := Lib.hid (H6.out.gr hc7)
    have HOP7 := Lib.hid H7.out.ops
    rw [← HO.out] at HOP7
    have HF := Lib.hid (HC3.out.trans H7.out.ch)
    clear hc7 x0 x1 x2 x3
    go_wp2_with fail
    refine HOP7.out.mono ?_
    rintro e w8 ⟨rfl, rfl⟩
    go_wp2
    go_ret
    exact ⟨rfl, HF.out⟩
  · have k4 : ¬ no ≤ 4294967295 := by omega
    have k5 : decide (no ≤ 4294967295) = false := decide_eq_false k4
    go_wp2_with fail
    refine (HRE.out _ _).mono ?_
    rintro e w7 ⟨rfl, hc7⟩
    have H7 := Lib.hid (H6.out.gr hc7)
    have HOP7 := Lib.hid H7.out.ops
    rw [← HO.out] at HOP7
    have HF := Lib.hid (HC3.out.trans H7.out.ch)
    clear hc7 x0 x1 x2 x3
    go_wp2_with fail
    refine HOP7.out.mono ?_
    rintro e w8 ⟨rfl, rfl⟩
    go_wp2
    go_ret
    exact ⟨rfl, HF.out⟩
theorem cntL_none {b : Nat → Bool} : ∀ {n : Nat}, (∀ r, r < n → b r = false) → cntL b n = 0
  | 0, _ => rfl
  | n + 1, h => by
    show cntL b n + (if b n then 1 else 0) = 0
    rw [cntL_none fun r hr => h r (by omega), h n (Nat.lt_succ_self n)]
    rfl
/-- What is on the device once nothing was written, under a number. -/
structure ArgOn (n : Gn) (x : Nat) (no : Int) (d : Dev) : Prop where
  on : SnpOn (secsG n) d 7 0 no n x (padZ 0 (fun _ => 0)) (fun _ => false)
  ops : d.ops ≤ 200000
  W : d.W.length ≤ 200000
theorem arg_on {n : Gn} (hn : n.Ok) {x : Nat} (hx : x ≤ 1) (no : Int) : (allTo (snpP 7 0 no n x (padZ 0 (fun _ => 0))) (bkD 7 (secsG n)) (n.S * n.q)).e = 0 ∧ ArgOn n x no (allTo (snpP 7 0 no n x (padZ 0 (fun _ => 0))) (bkD 7 (secsG n)) (n.S * n.q)).d := by
  obtain ⟨h1, h2, _⟩ := snp_first hn hx 7 0 no (padZ 0 (fun _ => 0))
  have h0 := bkD_lims 7 (secsG n)
  have hl := (allTo_lim (f := snpP 7 0 no n x (padZ 0 (fun _ => 0))) h0.1 h0.2 (n.S * n.q)).1
  have ht := hn.t2
  have htot : secsG n ≤ 2564 := by
    have := hn.tot2
    unfold Gn.tot Gn.fs Gn.q at this
    unfold secsG
    rw [Nat.mul_assoc]
    exact this
  exact ⟨h1, h2, by have := hl.ops; unfold Gn.q at *; omega, by have := hl.W; unfold Gn.q at *; omega⟩
theorem arg_read {w0 w : World} {X : Nat → Prop} {B : Nat} {n : Gn} {x : Nat} {no : Int} {d : Dev} (h : OneX w0 X B d w) (g : ArgOn n x no d) (hn : n.Ok) (hx : x ≤ 1) (ho : 0 ≤ no ∧ no ≤ 4294967295) (hm : smayB 7 n.ge (x : Int) 0 0 no = true) (long : Int) :
    ∃ k : Int, ((k = 0 ∧ 0 ≤ long ∧ long ≤ ((n.S * n.K * 228 : Nat) : Int)) ∨ (k = 1 ∧ long < 0) ∨ (k = 1 ∧ 0 ≤ long ∧ ((n.S * n.K * 228 : Nat) : Int) < long)) ∧ Calls Tryz.prog 22 #[.pointer (some ⟨B, 0, none⟩), .int .i64 7, .agg (geC n.ge), .int .i64 (x : Int), .int .i64 no, .int .i64 long] w (fun e w' => ∃ v, e = .returned (.tuple #[v, .int .i64 k]) ∧ Ch (fun _ => False) w0 w') := by
  by_cases hl : 0 ≤ long ∧ long ≤ ((n.S * n.K * 228 : Nat) : Int)
  · obtain ⟨j, rfl⟩ : ∃ j : Nat, long = (j : Int) := ⟨long.toNat, by omega⟩
    have h' := h
    rw [← opD_self d] at h'
    refine ⟨0, Or.inl ⟨rfl, hl⟩, (h'.snpRead (by have := g.ops; omega) (by have := g.W; omega) g.on.fine.qt.dead hn hx ⟨by omega, by omega⟩ ho (by omega)).mono ?_⟩
    rintro e w' ⟨c, v, k, hc, rfl, h1, _, _, h2⟩
    rcases h2 with ⟨rfl, _⟩ | ⟨_, _, s, h3, h4⟩
    · exact ⟨v, rfl, h1.ch⟩
    · have := (rd_enough g.on hn hx (Nat.le_refl _) ⟨by omega, by omega⟩ ⟨by omega, by omega⟩ ho (fun i => by unfold padZ; split <;> omega)).1 (fun s _ => by have : cntL (fun r => (fun _ => false) (s * n.q + r)) n.q = 0 := cntL_none (fun _ _ => rfl); omega) s h3
      omega
  · refine ⟨1, ?_, (sread_long (some ⟨B, 0, none⟩) 7 n (x : Int) no long w hn hm hl).mono ?_⟩
    · omega
    rintro e w' ⟨rfl, hc⟩
    exact ⟨_, rfl, h.ch.trans hc⟩
set_option maxHeartbeats 12800000 in
theorem snapArgs_yes (n : Gn) (x : Nat) (no long : Int) (w : World) (hn : n.Ok) (hs : smlB n.ge = true) (hb : blkOk 7 n.ge = true) (hS : n.S ≤ 3) (hK : n.K ≤ 4) (hx : x ≤ 1) (ho : 0 ≤ no ∧ no ≤ 4294967295) : Calls Tryz.prog 7 #[.agg (geC n.ge), .int .i64 (x : Int), .int .i64 no, .int .i64 long] w (Told w) := by
  obtain ⟨w1, H, hR⟩ := geR w n.ge
  obtain ⟨x0, x1, x2, x3⟩ := hR.x
  have hfr : frsB n.ge (x : Int) 0 = true := by
    have h1 : mayG n.ge = true := by unfold blkOk at hb; exact (Bool.and_eq_true_iff.1 hb).1
    unfold frsB
    rw [h1, decide_eq_true (show 0 ≤ (x : Int) ∧ (x : Int) ≤ 1 by omega), decide_eq_true (show 0 ≤ (0 : Int) ∧ (0 : Int) < n.ge.st from ⟨by omega, by show (0 : Int) < (n.S : Int); have := hn.s1; omega⟩)]
    rfl
  have hw0 : wordB 0 = true := rfl
  have hw7 : wordB 7 = true := rfl
  have hwn : wordB no = true := wordB_iff.2 ho
  have hp2 : smayB 7 n.ge (x : Int) 0 0 no = true := by unfold smayB; rw [hfr, hw0, hw7, hwn]; rfl
  obtain ⟨T, hT⟩ : ∃ T, T = n.S * n.K * 228 := ⟨_, rfl⟩
  obtain ⟨SK, hSK⟩ : ∃ SK, SK = n.S * n.K := ⟨_, rfl⟩
  have hSK2 : SK ≤ 12 := by rw [hSK]; exact Nat.mul_le_mul hS hK
  have hT2 : T = SK * 228 := by rw [hT, hSK]
  have HR := Lib.hid hR
  have HX := Lib.hid hR.x
  have HN := Lib.hid hn
  have HUP := Lib.hid (fun w => snawake_any w)
  have HSM := Lib.hid (fun w => small12_any n.ge w)
  rw [hs] at HSM
  have HBK := Lib.hid (fun w => lawBlank_any 7 n.ge w ⟨by omega, by omega⟩)
  have HBO := Lib.hid hb
  have HMA := Lib.hid hp2
  have HON := Lib.hid (arg_on hn hx no)
  have HOV := Lib.hid (fun (D A : Option Addr) w => swrite_err D A (T + 1) (T + 1) 7 0 no n.ge (x : Int) w 2 (Or.inr rfl) fun w => sputs_long A (T + 1) (T + 1) 7 0 no n x w hn hx ⟨by omega, by omega⟩ ⟨by omega, by omega⟩ ho (by omega) (by omega))
  have HNI := Lib.hid (fun w => sread_nil 7 n (x : Int) no 0 w hn hp2 (Nat.zero_le _))
  have HMY := Lib.hid (fun w => rgmay_any n.ge w)
  rw [show mayG n.ge = true by unfold blkOk at hb; exact (Bool.and_eq_true_iff.1 hb).1] at HMY
  have e1 : wrap64 ((n.S : Int) * (n.K : Int)) = (SK : Int) := by
    have : (n.S : Int) * (n.K : Int) = (SK : Int) := by rw [hSK]; exact (Int.natCast_mul _ _).symm
    rw [this]
    exact IntWalk.wrap64_in _ ⟨by omega, by omega⟩
  have e2 : wrap64 ((SK : Int) * 228) = (T : Int) := by rw [IntWalk.wrap64_in _ ⟨by omega, by omega⟩]; omega
  have HE := Lib.hid (And.intro e1 e2)
  have t0 : (0 : Int) ≤ (T : Int) := by omega
  have t1 : (T : Int) ≤ 2736 := by omega
  have y1 : (0 : Int) ≤ (x : Int) := by omega
  have y2 : (x : Int) ≤ 1 := by omega
  obtain ⟨n1, n2⟩ := ho
  have HNO := Lib.hid (And.intro n1 n2)
  have HXX := Lib.hid hx
  have HT := Lib.hid hT
  clear hR hs hb hn hp2 hfr hw0 hw7 hwn hT hSK hSK2 hT2 e1 e2 hx
  go_enter Tryz.func7, Tryz.ntmps7
  go_wp2_with (first | ((with_reducible refine wpList_isOp (.box 23 (.tmp 0)) rfl ?_); refine wpList_boxing _ w1 rfl 23 (.tmp 0) rfl (geC n.ge) H rfl (by exact HR.out.sz) (by exact HR.out.al) ?_) | fail)
  refine (HUP.out _).mono ?_
  rintro e w2 ⟨rfl, hc2⟩
  have HC2 := Lib.hid (HR.out.ch.trans hc2)
  clear x0 x1 x2 x3
  obtain ⟨x0, x1, x2, x3⟩ := HX.out.gr hc2
  have HX2 := Lib.hid (HX.out.gr hc2)
  clear hc2
  go_wp2_with fail
  refine (HSM.out _).mono ?_
  rintro e w3 ⟨rfl, hc3⟩
  have HC3 := Lib.hid (HC2.out.trans hc3)
  clear x0 x1 x2 x3
  obtain ⟨x0, x1, x2, x3⟩ := HX2.out.gr hc3
  have HX3 := Lib.hid (HX2.out.gr hc3)
  clear hc3
  go_wp2_with fail
  refine (HBK.out _).mono ?_
  rintro e w4 hb
  obtain ⟨B, rfl, hO⟩ := hb.2 n HBO.out rfl
  have hO : One w3 B (bkD 7 (secsG n)) w4 := hO
  have h4 : OneX w3 (fun _ => False) B (bkD 7 (secsG n)) w4 := ⟨hO.1, by obtain ⟨p, hp, hd⟩ := hO.2; exact ⟨p, hp, hd, fun i f => f.elim⟩, fun i f => f.elim⟩
  have h0 := bkD_lims 7 (secsG n)
  have htot : secsG n ≤ 2564 := by
    have := HN.out.tot2
    unfold Gn.tot Gn.fs Gn.q at this
    unfold secsG
    rw [Nat.mul_assoc]
    exact this
  have hwr := h4.snpWrite (A := none) (l := 0) (C := 0) (z := fun _ => 0) (vol := 7) (ep := 0) (no := no) (n := n) (a := x) HN.out HXX.out ⟨by omega, by omega⟩ ⟨by omega, by omega⟩ HNO.out (Nat.zero_le _) (nil_row w4 _) h0.1 h0.2 (by omega)
  rw [HON.out.1] at hwr
  obtain ⟨d1, hd1⟩ : ∃ d1, d1 = (allTo (snpP 7 0 no n x (padZ 0 (fun _ => 0))) (bkD 7 (secsG n)) (n.S * n.q)).d := ⟨_, rfl⟩
  rw [← hd1] at hwr
  have hon := HON.out.2
  rw [← hd1] at hon
  have HG := Lib.hid hon
  have HWR := Lib.hid hwr
  have HOP := Lib.hid h4.ops
  obtain ⟨o, ho⟩ : ∃ o, o = (bkD 7 (secsG n)).ops := ⟨_, rfl⟩
  rw [← ho] at HOP
  clear x0 x1 x2 x3
  obtain ⟨x0, x1, x2, x3⟩ := HX3.out.gr h4.ch
  clear hb hO h4 ho h0 htot hwr hd1 hon
  go_wp2_with fail
  refine HOP.out.mono ?_
  rintro e w5 ⟨rfl, rfl⟩
  go_wp2_with fail
  refine HWR.out.mono ?_
  rintro e w6 ⟨rfl, h6, _⟩
  obtain ⟨k, hk, hrd⟩ := arg_read h6 HG.out HN.out HXX.out HNO.out HMA.out long
  rw [← HT.out] at hk
  have HRD := Lib.hid hrd
  have HK := Lib.hid hk
  clear x0 x1 x2 x3
  obtain ⟨x0, x1, x2, x3⟩ := HX3.out.gr h6.ch
  clear h6 hk hrd
  go_wp2_with fail
  refine HRD.out.mono ?_
  rintro e w7 ⟨v7, rfl, hc7⟩
  clear x0 x1 x2 x3
  have x0 : w7.cell? ⟨H, 0, none⟩ = some (.int .i64 (n.W : Int)) := (HX3.out.gr hc7).x0
  have x1 : w7.cell? ⟨H, 1, none⟩ = some (.int .i64 (n.S : Int)) := (HX3.out.gr hc7).x1
  have x2 : w7.cell? ⟨H, 2, none⟩ = some (.int .i64 (n.K : Int)) := (HX3.out.gr hc7).x2
  have x3 : w7.cell? ⟨H, 3, none⟩ = some (.int .i64 (n.M : Int)) := (HX3.out.gr hc7).x3
  have HC7 := Lib.hid hc7
  obtain ⟨e1, e2⟩ := HE.out
  have hmk : (Instr.makeSlice /-t-/24 (.int .i64 ((T : Int) + 1)) (.int .i64 ((T : Int) + 1))).run Tryz.prog w7 = .ok (.slice (some ⟨w7.heap.size, 0, none⟩) (T + 1) (T + 1)) (w7.alloc (.cells (madeCells #[.int .u8 0] (T + 1)) /-t-/5)) := run_make_row' (P := Tryz.prog) 24 5 (.int .u8 0) 1 Tryz.underlying24 Tryz.info5 rfl .i64 .i64 (T + 1) (by omega) (by omega) w7
  obtain ⟨w8, hw8⟩ : ∃ w8, w8 = w7.alloc (.cells (madeCells #[.int .u8 0] (T + 1)) /-t-/5) := ⟨_, rfl⟩
  rw [← hw8] at hmk
  have hc8 : Ch (fun _ => False) w7 w8 := by rw [hw8]; exact (Ch.refl _ w7).alloc _ _
  have HC8 := Lib.hid (HC7.out.trans hc8)
  obtain ⟨b8, hb8⟩ : ∃ b8, b8 = w7.heap.size := ⟨_, rfl⟩
  rw [← hb8] at hmk
  have HX8 := Lib.hid ((HX3.out.gr hc7).gr hc8)
  clear hc7 hw8 hc8 hb8
  go_upto_region 15 with fail
  rw [e2]
  clear x0 x1 x2 x3 hmk e1 e2
  have x0 : w8.cell? ⟨H, 0, none⟩ = some (.int .i64 n.ge.wal) := HX8.out.x0
  have x1 : w8.cell? ⟨H, 1, none⟩ = some (.int .i64 n.ge.st) := HX8.out.x1
  have x2 : w8.cell? ⟨H, 2, none⟩ = some (.int .i64 n.ge.k) := HX8.out.x2
  have x3 : w8.cell? ⟨H, 3, none⟩ = some (.int .i64 n.ge.m) := HX8.out.x3
  go_wp2_with fail
  refine (HOV.out _ _ _).mono ?_
  rintro e w9 ⟨rfl, hc9⟩
  have HC9 := Lib.hid (HC8.out.trans hc9)
  clear x0 x1 x2 x3
  obtain ⟨x0, x1, x2, x3⟩ := HX8.out.gr hc9
  have HX9 := Lib.hid (HX8.out.gr hc9)
  clear hc9
  go_wp2_with fail
  refine (HNI.out _).mono ?_
  rintro e w10 ⟨rfl, hc10⟩
  have HC10 := Lib.hid (HC9.out.trans hc10)
  clear x0 x1 x2 x3
  obtain ⟨x0, x1, x2, x3⟩ := HX9.out.gr hc10
  clear hc10
  go_wp2_with fail
  refine (HMY.out _).mono ?_
  rintro e w11 ⟨rfl, hc11⟩
  have HFIN := Lib.hid (HC3.out.trans (HC10.out.trans hc11))
  clear hc11 x0 x1 x2 x3
  rcases HK.out with ⟨rfl, h1, h2⟩ | ⟨rfl, h1⟩ | ⟨rfl, h1, h2⟩
  · go_wp2
    go_ret
    exact ⟨rfl, HFIN.out⟩
  · have h3 : ¬ 0 ≤ long := by omega
    go_wp2
    go_ret
    exact ⟨rfl, HFIN.out⟩
  · have h3 : ¬ long ≤ (T : Int) := by omega
    have h4 : decide (long ≤ (T : Int)) = false := decide_eq_false h3
    go_wp2
    go_ret
    exact ⟨rfl, HFIN.out⟩
theorem snapArgs_of (g : Ge) (a no long : Int) (w : World) : Calls Tryz.prog 7 #[.agg (geC g), .int .i64 a, .int .i64 no, .int .i64 long] w (Told w) := by
  cases hs : smlB g with
  | false => exact snapArgs_off g a no long w (Or.inl hs)
  | true =>
    cases hb : blkOk 7 g with
    | false => exact snapArgs_off g a no long w (Or.inr ⟨hs, hb⟩)
    | true =>
      obtain ⟨n, hn, rfl, h1, h2, _, _⟩ := sml_nat hs hb
      by_cases ha : 0 ≤ a ∧ a ≤ 1
      · by_cases ho : 0 ≤ no ∧ no ≤ 4294967295
        · obtain ⟨x, rfl⟩ : ∃ x : Nat, a = (x : Int) := ⟨a.toNat, by omega⟩
          exact snapArgs_yes n x no long w hn hs hb h1 h2 (by omega) ho
        · exact snapArgs_no n a no long w hs hb (by omega)
      · exact snapArgs_no n a no long w hs hb (by omega)
#print axioms snapArgs_of
end Go.Proofs.YtlbdopcchoklhaaGreat
