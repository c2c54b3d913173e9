/-
  ring.numbers, body and Sector, walked. ring.read and Told, walked.
-/
import Derived.Test.YteleknojohnlbaaGreatMc21
import Derived.Test.YteleknojohnlbaaGreatMc17
import Derived.Test.YteleknojohnlbaaGreatMc13
import Derived.BigRegion
import Derived.BigQuiet
import Derived.Test.YteleknojohnlbaaGreatMc20
import Derived.Test.YteleknojohnlbaaGreatMc15
import Derived.Test.YteleknojohnlbaaGreatMc11
namespace Go.Proofs.YteleknojohnlbaaGreat
open Go.RowKit
set_option linter.unusedVariables false
set_option maxRecDepth 100000
def ptr4 (H : Nat) : Array Value := #[.pointer (some ⟨H, 2, none⟩), .pointer (some ⟨H, 3, none⟩), .pointer (some ⟨H, 4, none⟩), .pointer (some ⟨H, 5, none⟩)]
theorem ptr4_cells (H : Nat) {c : Nat} (hc : c < 4) : (ptr4 H)[c]? = some (.pointer (some ⟨H, 2 + c, none⟩)) := by
  match c, hc with
  | 0, _ => rfl
  | 1, _ => rfl
  | 2, _ => rfl
  | 3, _ => rfl
set_option maxHeartbeats 1600000 in
theorem rnumbers4_any (H : Nat) (w : World) : Calls Tryz.prog 74 #[.pointer (some ⟨H, 0, none⟩)] w fun e w' => ∃ G, e = .returned (.slice (some ⟨G, 0, none⟩) 4 4) ∧ w'.heap[G]? = some (.cells (ptr4 H) 136 (0, 0)) ∧ Ch (fun _ => False) w w' := by
  go_enter Tryz.func74, Tryz.ntmps74
  go_wp2
  go_region_held3 (fun _ => True) (first | trivial) (first | (fail))
  obtain ⟨G, hG⟩ : ∃ G, G = w.heap.size := ⟨_, rfl⟩
  obtain ⟨w2, hw2⟩ : ∃ w2, w2 = (w.alloc (.cells (ptr4 H) 136)).drew := ⟨_, rfl⟩
  have hc2 : Ch (fun _ => False) w w2 := by rw [hw2]; exact ((Ch.refl _ w).alloc _ _).drew
  have HG2 := Lib.hid (show w2.heap[G]? = some (.cells (ptr4 H) 136 (0, 0)) by rw [hw2, hG]; exact heap_alloc_new w _)
  have HC2 := Lib.hid hc2
  unfold ptr4 at hw2
  rw [← hw2, ← hG]
  clear hw2 hG hc2
  go_wp2
  go_ret
  exact ⟨G, rfl, HG2.out, HC2.out⟩
def LaysR (w : World) (B H : Nat) (p : Pn) (V : Value) (j : Nat) (wr : World) : Prop := wr.heap[H]? = some (.cells (pcC p V) 26 (0, 0)) ∧ ∃ v, OutIs w.heap.size wr B v (prefR p j) ∧ Ch (fun _ => False) w wr
theorem LaysR.gr {w : World} {B H : Nat} {p : Pn} {V : Value} {j : Nat} {wr w' : World} (h : LaysR w B H p V j wr) (k : Ch (fun _ => False) wr w') : LaysR w B H p V j w' := by
  obtain ⟨h1, v, h2, h3⟩ := h
  exact ⟨(k.block H (blk_lt h1) (fun f => f)).trans h1, v, h2.ch k (fun _ _ f => f), h3.trans k⟩
theorem numR_cell {w : World} {H : Nat} {p : Pn} {V : Value} (h : w.heap[H]? = some (.cells (pcC p V) 26 (0, 0))) {j : Nat} (hj : j < 4) : w.cell? ⟨H, 2 + j, none⟩ = some (.int .i64 (numR p j)) := by
  rw [blk_cell h]
  match j, hj with
  | 0, _ => rfl
  | 1, _ => rfl
  | 2, _ => rfl
  | 3, _ => rfl
set_option maxHeartbeats 3200000 in
theorem rbody_any (p : Pn) (A : Option Addr) (C : Nat) (hm : mayP p = true) (w : World) (hr : RowV w (.slice A p.B.length C) p.B.length (Cod.litZ p.B)) : Calls Tryz.prog 43 #[.agg (pcC p (.slice A p.B.length C))] w (NewL (bodyR p).length (Cod.litZ (bodyR p)) w) := by
  have hoff : Off (fun i => w.heap.size ≤ i) (.slice A p.B.length C) := hr.low
  have hlen := (mayP_iff.1 hm).len
  obtain ⟨V, hV⟩ : ∃ V, V = Value.slice A p.B.length C := ⟨_, rfl⟩
  have HV := Lib.hid hV
  rw [← hV]
  obtain ⟨w1, H, hR⟩ := boxR w (pcC p V) 26
  obtain ⟨w2, hw2⟩ : ∃ w2, w2 = w1.alloc (.cells #[.slice none 0 0] 132) := ⟨_, rfl⟩
  obtain ⟨B, hB⟩ : ∃ B, B = w1.heap.size := ⟨_, rfl⟩
  have hc12 : Ch (fun _ => False) w1 w2 := by rw [hw2]; exact (Ch.refl _ w1).alloc _ _
  have HP2 := Lib.hid (show LaysR w B H p V 0 w2 from ⟨(hc12.block H (blk_lt hR.cx) (fun f => f)).trans hR.cx, _, by rw [hw2, hB]; exact nil_out w.heap.size w1 hR.ch.size, hR.ch.trans hc12⟩)
  have HL := Lib.hid (prefR_len hm)
  have HN := Lib.hid (numR_in hm)
  have HRV := Lib.hid hr
  have HOF := Lib.hid hoff
  have HLE := Lib.hid hlen
  have HMM := Lib.hid hm
  have HR := Lib.hid hR
  clear hR hc12 hr hoff hlen hm hV
  go_enter Tryz.func43, Tryz.ntmps43
  go_wp2_with ((with_reducible refine wpList_isOp (.box 26 (.tmp 0)) rfl ?_); refine wpList_boxing _ w1 rfl 26 (.tmp 0) rfl (pcC p V) H rfl (by exact HR.out.sz) (by exact HR.out.al) ?_)
  rw [← hw2, ← hB]
  clear hw2 hB
  refine (rnumbers4_any H w2).mono ?_
  rintro e w3 ⟨G, rfl, hg, hc3⟩
  have HG3 := Lib.hid hg
  have HP3 := Lib.hid (HP2.out.gr hc3)
  clear hg hc3
  go_wp2
  go_loopw [5, 8, 9, 10, 11, 12, 13, 14, 15, 16] (fun _ i _ _ _ _ _ _ _ _ wr => ∃ k : Nat, k ≤ 4 ∧ i = .int .i64 k ∧ Hid (LaysR w B H p V k wr) ∧ Hid (wr.heap[G]? = some (.cells (ptr4 H) 136 (0, 0)))) (fun _ i _ _ _ _ _ _ _ _ _ => 4 - (intOf i).toNat)
  case atStart => exact ⟨0, Nat.zero_le _, rfl, HP3, HG3⟩
  case round =>
    obtain ⟨k, hk, rfl, HP, HGR⟩ := hrel
    by_cases hlt : k < 4
    · have i1 : (0 : Int) ≤ (k : Int) := Int.natCast_nonneg _
      have i2 : (k : Int) < 4 := by omega
      have hcell : wr.cell? ⟨G, k, none⟩ = some (.pointer (some ⟨H, 2 + k, none⟩)) := by rw [blk_cell HGR.out]; exact ptr4_cells H hlt
      obtain ⟨h1, v, h2, h3⟩ := HP.out
      have b := HN.out k
      have hl := HL.out k
      have hc := numR_cell h1 hlt
      obtain ⟨N, hNn⟩ : ∃ N, N = (numR p k).toNat := ⟨_, rfl⟩
      rw [show numR p k = (N : Int) by omega] at hc
      have hO := onum_any w.heap.size B N v (prefR p k) wr (by omega) h2 h3.size (by omega)
      rw [hNn, ← prefR_snoc] at hO
      have HO := Lib.hid hO
      have HAH := Lib.hid (show ¬ FootO B v H from foot_apart h2 h1 (by decide) (by decide))
      have HAG := Lib.hid (show ¬ FootO B v G from foot_apart h2 HGR.out (by decide) (by decide))
      have H1 := Lib.hid h1
      have H2 := Lib.hid h2
      have H3 := Lib.hid h3
      have HLT := Lib.hid hlt
      rw [← hNn] at HO
      obtain ⟨o, ho⟩ : ∃ o, o = 2 + k := ⟨_, rfl⟩
      rw [← ho] at hcell hc
      clear ho hNn b hl h1 h2 h3 hO hlt HP
      go_wp2_with (go_at_call 75; refine HO.out.mono ?_; rintro e w3 ⟨rfl, v', q1, q2, q3⟩; have HP4 := Lib.hid (show LaysR w B H p V (k + 1) w3 from ⟨(q3.block H (blk_lt H1.out) HAH.out).trans H1.out, v', q1, H3.out.new (q3.mono fun i _ hi => H2.out.foot hi)⟩); have HG4 := Lib.hid ((q3.block G (blk_lt HGR.out) HAG.out).trans HGR.out); clear q1 q2 q3)
      go_roundw
      case rel => exact ⟨k + 1, HLT.out, by go_num, HP4, HG4⟩
      case measure => have := HLT.out; simp [intOf]; omega
    · obtain rfl : k = 4 := by omega
      obtain ⟨h1, v, h2, h3⟩ := HP.out
      have hx := (HRV.out).gr h3
      have hof : Off (FootO B v) (.slice A p.B.length C) := HOF.out.mono fun i hi => h2.foot hi
      have hO := obytes_any w.heap.size B p.B.length C A (Cod.litZ p.B) v (prefR p 4) wr (by have := HLE.out; omega) h2 hx hof h3.size (by have := HL.out 4; omega)
      rw [byL_own, show prefR p 4 ++ byR p = bodyR p from rfl] at hO
      have hc6 : wr.cell? ⟨H, 6, none⟩ = some V := blk_cell h1
      rw [HV.out] at hc6
      have HO := Lib.hid hO
      have H2 := Lib.hid h2
      have H3 := Lib.hid h3
      clear hlt hk hx hof hO h1 h2 h3
      rw [show ((4 : Nat) : Int) = 4 from rfl]
      go_wp2_with (first
        | (go_at_call 76; refine HO.out.mono ?_; rintro e w3 ⟨rfl, v', q1, q2, q3⟩; have HA := Lib.hid (all_any w.heap.size B v' (bodyR p) w3 q1 (by have := body_lenR HMM.out; omega)); have HC := Lib.hid (H3.out.new (q3.mono fun i _ hi => H2.out.foot hi)); clear q1 q2 q3)
        | (go_at_call 77; refine HA.out.mono ?_; rintro e w4 ⟨r, rfl, q1, q2⟩; have HQ := Lib.hid q1; have HC4 := Lib.hid (HC.out.trans q2); clear q1 q2))
      go_ret
      obtain ⟨q0, q⟩ := HQ.out
      exact ⟨r, rfl, ⟨q0, q.elim Or.inl fun ⟨g, cap, cur, q1, q2, q3⟩ => Or.inr ⟨g, cap, cur, q1, Nat.le_trans HC.out.size q2, q3⟩⟩, HC4.out⟩
theorem rok_may {vol : Int} {g : Ge} {mir : Int} {p : Pn} (h : mayP p = false) : rokB vol g mir p = false := by unfold rokB; rw [h]; rfl
theorem rok_geo {vol : Int} {g : Ge} {mir : Int} {p : Pn} (h : mayG g = false) : rokB vol g mir p = false := by unfold rokB; rw [h, Bool.false_and, Bool.and_false]
theorem rok_mir {vol : Int} {g : Ge} {mir : Int} {p : Pn} (h : mirB mir = false) : rokB vol g mir p = false := by unfold rokB; rw [h, Bool.false_and, Bool.and_false, Bool.and_false]
theorem rinB_is {w : World} {vol : Int} {g : Ge} {mir : Int} {p : Pn} {V : Value} (hp : mayP p = true) (hg : mayG g = true) (hm : mirB mir = true) (hv : N64 vol) (hr : RowV w V (bodyR p).length (Cod.litZ (bodyR p))) : BkIs w (rinB vol g mir p V) := by
  have m := mayP_iff.1 hp
  have m1 := m.seq
  have m2 := m.ep
  have a := addr_in hg (inB_true.1 hm) (slot_in hg m1.1)
  refine ⟨?_, hv, ?_, ?_, ?_, hr⟩
  · show N64 3; unfold N64; omega
  · show N64 (addrR g mir (p.seq % g.wal)); unfold N64; omega
  · show N64 p.ep; unfold N64; omega
  · show N64 p.seq; unfold N64; omega
structure PcIs (w : World) (p : Pn) (V : Value) : Prop where
  row : RowV w V p.B.length (Cod.litZ p.B)
  byt : ∀ x ∈ p.B, x < 256
theorem PcIs.gr {w w' : World} {p : Pn} {V : Value} (h : PcIs w p V) (k : Ch (fun _ => False) w w') : PcIs w' p V := ⟨h.row.gr k, h.byt⟩
set_option maxHeartbeats 6400000 in
theorem rsector_any (vol : Int) (g : Ge) (mir : Int) (p : Pn) (V : Value) (w : World) (hv : N64 vol) (h : PcIs w p V) : Calls Tryz.prog 12 #[.int .i64 vol, .agg (geC g), .int .i64 mir, .agg (pcC p V)] w (SecRPost vol g mir p w) := by
  obtain ⟨A, C, hV, hVl, _⟩ := id h.row
  subst hV
  obtain ⟨w0, HG, hRG⟩ := geR w g
  obtain ⟨w1, H, hR⟩ := boxR w0 (pcC p (.slice A p.B.length C)) 26
  have HLp := Lib.hid (load_pc hR.cx)
  have hGx := hRG.x.gr hR.ch
  have HGL := Lib.hid (show w1.heap[HG]? = some (.cells (geC g) 23 (0, 0)) from (hR.ch.block HG (blk_lt hRG.cx) (fun f => f)).trans hRG.cx)
  have HM := Lib.hid (rgMay_any p A C w1 hVl.1)
  have HCH := Lib.hid (hRG.ch.trans hR.ch)
  have HPX := Lib.hid (pc_x hR.cx)
  have HGX := Lib.hid hGx
  have HIS := Lib.hid ((h.gr hRG.ch).gr hR.ch)
  have HR := Lib.hid hR
  have HRG := Lib.hid hRG
  have HVL := Lib.hid hv
  clear hR hRG hGx h hv hVl
  cases hm : mayP p
  · have HN := Lib.hid (rok_may (vol := vol) (g := g) (mir := mir) hm)
    rw [hm] at HM
    clear hm
    go_enter Tryz.func12, Tryz.ntmps12
    go_wp2_with (first | ((with_reducible refine wpList_isOp (.box 23 (.tmp 1)) rfl ?_); refine wpList_boxing _ w0 rfl 23 (.tmp 1) rfl (geC g) HG rfl (by exact HRG.out.sz) (by exact HRG.out.al) ?_) | ((with_reducible refine wpList_isOp (.box 26 (.tmp 3)) rfl ?_); refine wpList_boxing _ w1 rfl 26 (.tmp 3) rfl (pcC p (.slice A p.B.length C)) H rfl (by exact HR.out.sz) (by exact HR.out.al) ?_) | ((with_reducible refine wpList_isOp (.load 26 (.tmp 7)) rfl ?_); refine wpList_loading _ rfl 26 (.tmp 7) rfl (.agg (pcC p (.slice A p.B.length C))) ⟨H, 0, none⟩ rfl (by exact HLp.out) ?_) | (go_at_call 18; refine HM.out.mono ?_; rintro e w2 ⟨rfl, hc2⟩))
    go_ret2
    exact secRPost_no HN.out (HCH.out.trans hc2)
  rw [hm] at HM
  cases hg : mayG g
  · have HN := Lib.hid (rok_geo (vol := vol) (mir := mir) (p := p) hg)
    have HQ := Lib.hid hg
    clear hm hg
    go_enter Tryz.func12, Tryz.ntmps12
    go_wp2_with (first | ((with_reducible refine wpList_isOp (.box 23 (.tmp 1)) rfl ?_); refine wpList_boxing _ w0 rfl 23 (.tmp 1) rfl (geC g) HG rfl (by exact HRG.out.sz) (by exact HRG.out.al) ?_) | ((with_reducible refine wpList_isOp (.box 26 (.tmp 3)) rfl ?_); refine wpList_boxing _ w1 rfl 26 (.tmp 3) rfl (pcC p (.slice A p.B.length C)) H rfl (by exact HR.out.sz) (by exact HR.out.al) ?_) | ((with_reducible refine wpList_isOp (.load 26 (.tmp 7)) rfl ?_); refine wpList_loading _ rfl 26 (.tmp 7) rfl (.agg (pcC p (.slice A p.B.length C))) ⟨H, 0, none⟩ rfl (by exact HLp.out) ?_) | (go_at_call 18; refine HM.out.mono ?_; rintro e w2 ⟨rfl, hc2⟩; obtain ⟨x0, x1, x2, x3⟩ := HGX.out.gr hc2) | (go_at_call 39; refine (gmay_any g _).mono ?_; rintro e w3 ⟨rfl, hc3⟩; rw [HQ.out]))
    go_ret2
    exact secRPost_no HN.out ((HCH.out.trans hc2).trans hc3)
  cases hr : mirB mir
  · have HN := Lib.hid (rok_mir (vol := vol) (g := g) (p := p) hr)
    have HQ := Lib.hid hg
    have HQ2 := Lib.hid (show inB mir 0 1 = false from hr)
    clear hm hg hr
    go_enter Tryz.func12, Tryz.ntmps12
    go_wp2_with (first | ((with_reducible refine wpList_isOp (.box 23 (.tmp 1)) rfl ?_); refine wpList_boxing _ w0 rfl 23 (.tmp 1) rfl (geC g) HG rfl (by exact HRG.out.sz) (by exact HRG.out.al) ?_) | ((with_reducible refine wpList_isOp (.box 26 (.tmp 3)) rfl ?_); refine wpList_boxing _ w1 rfl 26 (.tmp 3) rfl (pcC p (.slice A p.B.length C)) H rfl (by exact HR.out.sz) (by exact HR.out.al) ?_) | ((with_reducible refine wpList_isOp (.load 26 (.tmp 7)) rfl ?_); refine wpList_loading _ rfl 26 (.tmp 7) rfl (.agg (pcC p (.slice A p.B.length C))) ⟨H, 0, none⟩ rfl (by exact HLp.out) ?_) | (go_at_call 18; refine HM.out.mono ?_; rintro e w2 ⟨rfl, hc2⟩; obtain ⟨x0, x1, x2, x3⟩ := HGX.out.gr hc2) | (go_at_call 39; refine (gmay_any g _).mono ?_; rintro e w3 ⟨rfl, hc3⟩; rw [HQ.out]) | (go_at_call 40; refine (rwithin_any _ _ _ _).mono ?_; rintro e w' ⟨rfl, rfl⟩; rw [HQ2.out]))
    go_ret2
    exact secRPost_no HN.out ((HCH.out.trans hc2).trans hc3)
  have HQ := Lib.hid hg
  have HQ2 := Lib.hid (show inB mir 0 1 = true from hr)
  have HMM := Lib.hid hm
  have HMR := Lib.hid hr
  have hsq := (mayP_iff.1 hm).seq
  have hsl := slot_in hg hsq.1
  obtain ⟨⟨wa, wb⟩, _⟩ := may_parts hg
  have HAD := Lib.hid (fun w => raddr_any g mir (p.seq % g.wal) w hg (inB_true.1 hr) hsl)
  have HTM := Lib.hid (show p.seq.tmod g.wal = p.seq % g.wal from Int.tmod_eq_emod_of_nonneg hsq.1)
  have wz : ¬ g.wal = 0 := by omega
  clear hm hg hr hsl
  go_enter Tryz.func12, Tryz.ntmps12
  go_wp2_with (first | ((with_reducible refine wpList_isOp (.box 23 (.tmp 1)) rfl ?_); refine wpList_boxing _ w0 rfl 23 (.tmp 1) rfl (geC g) HG rfl (by exact HRG.out.sz) (by exact HRG.out.al) ?_) | ((with_reducible refine wpList_isOp (.box 26 (.tmp 3)) rfl ?_); refine wpList_boxing _ w1 rfl 26 (.tmp 3) rfl (pcC p (.slice A p.B.length C)) H rfl (by exact HR.out.sz) (by exact HR.out.al) ?_) | ((with_reducible refine wpList_isOp (.load 26 (.tmp 7)) rfl ?_); refine wpList_loading _ rfl 26 (.tmp 7) rfl (.agg (pcC p (.slice A p.B.length C))) ⟨H, 0, none⟩ rfl (by exact HLp.out) ?_) | (go_at_call 18; refine HM.out.mono ?_; rintro e w2 ⟨rfl, hc2⟩; obtain ⟨x0, x1, x2, x3⟩ := HGX.out.gr hc2) | (go_at_call 39; refine (gmay_any g _).mono ?_; rintro e w3 ⟨rfl, hc3⟩; rw [HQ.out]) | (go_at_call 40; refine (rwithin_any _ _ _ _).mono ?_; rintro e w' ⟨rfl, rfl⟩; rw [HQ2.out]))
  have HPX3 := Lib.hid ((HPX.out.gr hc2).gr hc3)
  have HGX3 := Lib.hid ((HGX.out.gr hc2).gr hc3)
  have HIS3 := Lib.hid ((HIS.out.gr hc2).gr hc3)
  have HC3 := Lib.hid ((HCH.out.trans hc2).trans hc3)
  clear hc2 hc3 x0 x1 x2 x3
  obtain ⟨x0, x1, x2, x3⟩ := HGX3.out
  obtain ⟨y0, y1, y2, y3, y4, y5, y6⟩ := HPX3.out
  go_region_held3 (fun w' => ((fun w' => w'.cell? ⟨H, 0, none⟩ = some (.int .i64 (p).seq) ∧ w'.cell? ⟨H, 1, none⟩ = some (.int .i64 (p).ep) ∧ w'.cell? ⟨H, 2, none⟩ = some (.int .i64 (p).fr) ∧ w'.cell? ⟨H, 3, none⟩ = some (.int .i64 (p).ch) ∧ w'.cell? ⟨H, 4, none⟩ = some (.int .i64 (p).ix) ∧ w'.cell? ⟨H, 5, none⟩ = some (.int .i64 (p).ofn) ∧ w'.cell? ⟨H, 6, none⟩ = some (.slice A p.B.length C)) w') ∧ w'.cell? ⟨HG, 0, none⟩ = some (.int .i64 g.wal) ∧ w'.cell? ⟨HG, 1, none⟩ = some (.int .i64 g.st) ∧ w'.cell? ⟨HG, 2, none⟩ = some (.int .i64 g.k) ∧ w'.cell? ⟨HG, 3, none⟩ = some (.int .i64 g.m)) (first | exact kb | exact ka | exact kc | go_keep)
    (first
      | (go_at_call 42; rw [HTM.out]; refine (HAD.out _).mono ?_; rintro e w4 ⟨rfl, q4⟩; have HP4 := Lib.hid (HPX3.out.drew.gr q4); have HG4 := Lib.hid (HGX3.out.drew.gr q4); have ka := And.intro HP4.out.all HG4.out.all; have HI4 := Lib.hid ((HIS3.out.gr ((Ch.refl _ _).drew)).gr q4); have HC4 := Lib.hid (HC3.out.drew.trans q4); clear q4)
      | (go_at_call 43; refine (rbody_any p A C HMM.out _ HI4.out.row).mono ?_; rintro e w5 ⟨v, rfl, q1, q2⟩; have HP5 := Lib.hid (HP4.out.gr q2); have HG5 := Lib.hid (HG4.out.gr q2); have kb := And.intro HP5.out.all HG5.out.all; obtain ⟨A5, C5, rfl⟩ := own_slice q1; have HK := Lib.hid (rinB_is (vol := vol) (g := g) (mir := mir) HMM.out HQ.out HMR.out HVL.out (ownsRow_rowV q1 (by have := body_lenR HMM.out; omega) (fun c _ => Cod.litZ_b (bodyR_b HI4.out.byt) c))); have HC5 := Lib.hid (HC4.out.trans q2); clear q1 q2)
      | (go_at_call 41; refine (bseal_any (rinB vol g mir p (.slice A5 (bodyR p).length C5)) A5 C5 _ rfl HK.out).mono ?_; rintro e w6 hq; have hfin := secRPost_seal HMM.out HQ.out HMR.out HC5.out hq; obtain ⟨A6, C6, rfl, q3, q4⟩ := hq; have kc := And.intro (HP5.out.gr q4).all (HG5.out.gr q4).all))
  have HFIN := Lib.hid hfin
  clear hfin
  go_wp2
  go_ret2
  exact HFIN.out
end Go.Proofs.YteleknojohnlbaaGreat
namespace Go.Proofs.YteleknojohnlbaaGreat
open Go.RowKit
set_option linter.unusedVariables false
set_option maxRecDepth 100000
theorem RowN.congr {w wr : World} {u : Value} {n : Nat} {z y : Nat → Nat} (h : RowN w wr u n z) (e : ∀ c, c < n → z c = y c) : RowN w wr u n y := by
  obtain ⟨A, C, h1, h2, h3⟩ := h
  exact ⟨A, C, h1, h2, h3.imp id fun ⟨sb, so, q⟩ => ⟨sb, so, ⟨q.eq, q.row.congr e, q.blk, q.lo⟩⟩⟩
theorem RowN.low {w0 w wr : World} {u : Value} {n : Nat} {z : Nat → Nat} (h : RowN w wr u n z) (k : w0.heap.size ≤ w.heap.size) : RowN w0 wr u n z := by
  obtain ⟨A, C, h1, h2, h3⟩ := h
  exact ⟨A, C, h1, h2, h3.imp id fun ⟨sb, so, q⟩ => ⟨sb, so, ⟨q.eq, q.row, q.blk, Nat.le_trans k q.lo⟩⟩⟩
theorem RowN.gr {w wr w' : World} {u : Value} {n : Nat} {z : Nat → Nat} (h : RowN w wr u n z) (k : Ch (fun _ => False) wr w') : RowN w w' u n z := h.ch k fun _ f => f.elim
theorem RowN.nil (w wr : World) (z : Nat → Nat) : RowN w wr (.slice none 0 0) 0 z := ⟨none, 0, rfl, Nat.le_refl _, Or.inl rfl⟩
theorem RowN.set {w wr w' : World} {u : Value} {n H : Nat} {z : Nat → Nat} {c : Array Value} {t : TypeId} (h : RowN w wr u n z) (k : Ch (fun i => i = H) wr w') (hH : wr.heap[H]? = some (.cells c t (0, 0))) (ht : t ≠ /-t-/5) : RowN w w' u n z :=
  h.ch k fun i e _ ⟨c2, hc2⟩ => by rw [e] at hc2; exact cells_ne hH hc2 ht rfl
theorem RowN.len {w wr : World} {u : Value} {n : Nat} {z : Nat → Nat} (h : RowN w wr u n z) : ∃ A C, u = .slice A n C := by obtain ⟨A, C, h1, _⟩ := h; exact ⟨A, C, h1⟩
theorem bL_le (n : Nat) (z : Nat → Nat) (k e : Nat) : bL n z k e ≤ 4096 := by
  by_cases h : bE n z k e = 0
  · have := b_ok h; omega
  · rw [(b_bad h).1]; omega
theorem rowL_litz (n : Nat) (z : Nat → Nat) {c : Nat} (h : c < n) : Cod.litZ (rowL n z) c = z c := Cod.litZ_range n z h
theorem pcC_cell (p : Pn) {V : Value} (hV : SlV V) {o : Nat} {v : Value} (h : (pcC p V)[o]? = some v) (k : Int) : v ≠ .int .u8 k := by
  have ho : o < 7 := by have := (Array.getElem?_eq_some_iff.1 h).1; exact this
  obtain ⟨A, n, C, rfl⟩ := hV
  match o, ho with
  | 0, _ | 1, _ | 2, _ | 3, _ | 4, _ | 5, _ | 6, _ => intro e; rw [e] at h; cases h
theorem off_pc {w : World} {H n : Nat} {p : Pn} {V x : Value} {z : Nat → Nat} (hV : SlV V) (h : w.heap[H]? = some (.cells (pcC p V) 26 (0, 0))) (hr : RowV w x n z) : Off (fun i => i = H) x := fun b o m C e hb => by
  obtain ⟨A, D, e1, _, h3⟩ := hr
  rw [e] at e1
  injection e1 with e1 e2 _
  obtain ⟨b', o', e4, hc⟩ := h3 (by omega)
  rw [← e1] at e4
  injection e4 with e4
  injection e4 with e5 e6
  have h0 := (hc 0 (by omega)).1
  rw [← e5, hb, blk_cell h] at h0
  exact pcC_cell p hV h0 _ rfl
theorem pcC_set (s e : Int) (V : Nat → Int) (L : List Nat) (U : Value) {j : Nat} (hj : j < 4) (k : Int) : (pcC (pnOf s e V L) U).setIfInBounds (2 + j) (.int .i64 k) = pcC (pnOf s e (up V j k) L) U := by
  match j, hj with
  | 0, _ | 1, _ | 2, _ | 3, _ => rfl
structure ReadsR (w : World) (B H : Nat) (Y : Pn → Prop) (s e : Int) (j : Nat) (wr : World) : Prop where
  var : ∃ V, wr.heap[H]? = some (.cells (pcC (pnOf s e V []) (.slice none 0 0)) 26 (0, 0)) ∧ ∀ y, Y y → ∀ c, c < j → V c = numR y c
  inp : ∃ x n z, InIs wr B x n z ∧ BackR Y j n z ∧ n ≤ 228
  ch : Ch (fun _ => False) w wr
theorem ReadsR.gr {w : World} {B H : Nat} {Y : Pn → Prop} {s e : Int} {j : Nat} {wr w' : World} (h : ReadsR w B H Y s e j wr) (k : Ch (fun _ => False) wr w') : ReadsR w B H Y s e j w' := by
  obtain ⟨⟨V, h1, h2⟩, ⟨x, n, z, h4, h5, h7⟩, h6⟩ := h
  exact ⟨⟨V, (k.block H (blk_lt h1) (fun f => f)).trans h1, h2⟩, ⟨x, n, z, h4.gr k, h5, h7⟩, h6.trans k⟩
theorem ReadsR.step {w : World} {B H : Nat} {Y : Pn → Prop} {s e : Int} (hB : w.heap.size ≤ B) (hH : w.heap.size ≤ H) (hY : ∀ y, Y y → mayP y = true) {j : Nat} (hj : j < 4) {wr : World} {G : Nat} (h : ReadsR w B H Y s e j wr)
    (hG : wr.heap[G]? = some (.cells (ptr4 H) 136 (0, 0))) :
    Calls Tryz.prog 84 #[.pointer (some ⟨B, 0, none⟩)] wr fun en w' => ∃ v E c, en = .returned (.tuple #[.int .i64 v, .int .i64 E]) ∧ w'.cell? ⟨H, 2 + j, none⟩ = some c ∧ w'.frozen? ⟨H, 2 + j, none⟩ = false ∧
      ReadsR w B H Y s e (j + 1) (w'.setCell ⟨H, 2 + j, none⟩ (.int .i64 v)) ∧ (w'.setCell ⟨H, 2 + j, none⟩ (.int .i64 v)).heap[G]? = some (.cells (ptr4 H) 136 (0, 0)) := by
  obtain ⟨⟨V, h1, h2⟩, ⟨x, n, z, h4, h5, h7⟩, h6⟩ := h
  have hb : wr.heap[B]? = some (.cells #[x] 172 (0, 0)) := h4.box
  have nHB : H ≠ B := cells_ne h1 hb (by decide)
  have nGB : G ≠ B := cells_ne hG hb (by decide)
  have nGH : G ≠ H := cells_ne hG h1 (by decide)
  obtain ⟨k, en, hr⟩ := Cod.rd_some n z
  refine (inum_any B n x z k en wr h4 hr).mono ?_
  rintro e' w1 ⟨rfl, x', q1, q2, q3⟩
  obtain ⟨b1, b2⟩ := h5.next hj hY hr
  have g1 := (q3.block H (blk_lt h1) nHB).trans h1
  have kset := Ch.setCell (S := fun i => i = H) (Ch.refl _ w1) (p := ⟨H, 2 + j, none⟩) (Or.inl rfl) (.int .i64 (Cod.resV T63 z k en : Int))
  have e1 := blk_set (i := 2 + j) g1 (.int .i64 (Cod.resV T63 z k en : Int))
  rw [pcC_set s e V [] (.slice none 0 0) hj] at e1
  have gG := (q3.block G (blk_lt hG) nGB).trans hG
  refine ⟨_, _, _, rfl, numR_cell g1 hj, blk_frozen g1, ⟨⟨_, e1, fun y hy c hc => ?_⟩, ⟨x', _, _, q1.ch kset (fun q => nHB q.symm) (off_pc slV_nil g1 q1.row), b1, by omega⟩, ?_⟩, (kset.block G (blk_lt gG) nGH).trans gG⟩
  · by_cases q : c = j
    · subst q
      rw [up_same]
      exact (b2 y hy).2
    · rw [up_other _ _ q]
      exact h2 y hy c (by omega)
  · exact (h6.new (q3.mono fun i _ hi => by rw [hi]; exact hB)).new (kset.mono fun i _ hi => by rw [hi]; exact hH)
theorem built_pc (s e : Int) (w : World) : (Instr.build 26 #[(0, .int .i64 s), (1, .int .i64 e)]).run Tryz.prog w = .ok (.agg (pcC (pnOf s e (fun _ => 0) []) (.slice none 0 0))) w := run_build w _ _ _ (by kernel_rfl)
def ReadPostR (n : Nat) (z : Nat → Nat) (w : World) (e : Ending) (w' : World) : Prop :=
  ∃ p V, e = .returned (.agg (pcC p V)) ∧ RowN w w' V p.B.length (Cod.litZ p.B) ∧ (∀ x ∈ p.B, x < 256) ∧ (∀ vol g mir slot y, TellsR n z vol g mir slot y → p = y) ∧ Ch (fun _ => False) w w'
set_option maxHeartbeats 6400000 in
theorem rread_any (A : Option Addr) (n C : Nat) (z : Nat → Nat) (w : World) (h : RowV w (.slice A n C) n z) : Calls Tryz.prog 48 #[.slice A n C] w (ReadPostR n z w) := by
  obtain ⟨w1, H, hZ⟩ := zePc w
  have HZ := Lib.hid hZ
  have HV1 := Lib.hid (h.gr hZ.ch)
  clear hZ h
  go_enter Tryz.func48, Tryz.ntmps48
  go_wp2_with ((with_reducible refine wpList_isOp (.alloc 26) rfl ?_); refine wpList_making _ w1 rfl 26 rfl (pcC pn0 (.slice none 0 0)) H (zero_pc _) (by exact HZ.out.sz) (by exact HZ.out.al) ?_)
  refine (bopen_any A n C z _ HV1.out).mono ?_
  rintro e w2 ⟨V, rfl, hb2, hc2⟩
  obtain ⟨o, ho⟩ : ∃ o, o = openB n z V := ⟨_, rfl⟩
  obtain ⟨E, hE⟩ : ∃ E, E = openQ n z := ⟨_, rfl⟩
  rw [← ho] at hb2
  rw [← ho, ← hE]
  obtain ⟨w3, H3, hZ3⟩ := zeR w2
  obtain ⟨A', C', hoV, _⟩ := id hb2.row
  obtain ⟨w4, h4⟩ := stR (b := o) hZ3.cx ⟨_, _, _, hoV⟩
  have hc4 : Ch (fun _ => False) w2 w4 := hZ3.ch.over h4.ch (by rw [hZ3.sz]; exact Nat.le_refl _)
  have c3 : w4.cell? ⟨H3, 3, none⟩ = some (.int .i64 o.epoch) := blk_cell h4.cx
  have c4 : w4.cell? ⟨H3, 4, none⟩ = some (.int .i64 o.seq) := blk_cell h4.cx
  obtain ⟨wz, w5, H5, hV5⟩ := varPc (pnOf o.seq o.epoch (fun _ => 0) []) slV_nil w4
  have c5 : w5.cell? ⟨H3, 5, none⟩ = some (.slice A' o.len C') := by
    have := hV5.ch.cell (p := ⟨H3, 5, none⟩) (v := o.V) (blk_cell h4.cx) (fun f => f)
    rw [hoV] at this
    exact this
  have hrow := (hb2.row.gr hc4).gr hV5.ch
  rw [hoV] at hrow
  have hol : o.len ≤ 228 := by rw [ho]; exact open_len
  have HN := Lib.hid (newIn_any A' o.len C' o.z w5 hrow (by omega))
  have HC5 := Lib.hid ((hc2.trans hc4).trans hV5.ch)
  have HH5 := Lib.hid (show w1.heap.size ≤ H5 by rw [← hV5.sz]; exact (hc2.trans hc4).size)
  have HZ3 := Lib.hid hZ3
  have H4 := Lib.hid h4
  have HV5 := Lib.hid hV5
  have HO := Lib.hid ho
  have HOL := Lib.hid hol
  have HBS := Lib.hid (built_pc o.seq o.epoch w4)
  clear hb2 hc2 hc4 hZ3 h4 hV5 hrow hol hE hoV ho
  go_wp2_with (first
    | ((with_reducible refine wpList_isOp (.alloc 80) rfl ?_); refine wpList_making _ w3 rfl 80 rfl (bkC bk0) H3 (zero_bk _) (by exact HZ3.out.sz) (by exact HZ3.out.al) ?_)
    | ((with_reducible refine wpList_isOp (.store 80 (.tmp 3) (.tmp 12)) rfl ?_); refine wpList_storing _ w4 rfl 80 (.tmp 3) (.tmp 12) rfl (.agg (bkC o)) ⟨H3, 0, none⟩ rfl rfl (by exact H4.out.st) ?_)
    | ((with_reducible refine wpList_isOp (.build 26 #[(0, .tmp 15), (1, .tmp 17)]) rfl ?_); refine wpList_building _ rfl 26 #[(0, .tmp 15), (1, .tmp 17)] rfl _ (by exact HBS.out) ?_)
    | ((with_reducible refine wpList_isOp (.alloc 26) rfl ?_); refine wpList_making _ wz rfl 26 rfl (pcC pn0 (.slice none 0 0)) H5 (zero_pc _) (by exact HV5.out.sz) (by exact HV5.out.al) ?_)
    | ((with_reducible refine wpList_isOp (.store 26 (.tmp 5) (.tmp 18)) rfl ?_); refine wpList_storing _ w5 rfl 26 (.tmp 5) (.tmp 18) rfl (.agg (pcC (pnOf o.seq o.epoch (fun _ => 0) []) (.slice none 0 0))) ⟨H5, 0, none⟩ rfl rfl (by exact HV5.out.st) ?_)
    | fail)
  refine HN.out.mono ?_
  rintro e w6 ⟨B, x, rfl, hin, hB, hc6⟩
  have hP : ReadsR w1 B H5 (fun y => ∃ vol g mir slot, TellsR n z vol g mir slot y) o.seq o.epoch 0 w6 :=
    ⟨⟨fun _ => 0, (hc6.block H5 (blk_lt HV5.out.cx) (fun f => f)).trans HV5.out.cx, fun y _ c hc => absurd hc (Nat.not_lt_zero c)⟩, ⟨x, o.len, o.z, hin, by rw [HO.out]; exact BackR.first (fun y hy => hy) V, HOL.out⟩, HC5.out.trans hc6⟩
  have HP6 := Lib.hid hP
  have HBB := Lib.hid (Nat.le_trans HC5.out.size hB)
  have HY := Lib.hid (fun (y : Pn) (hy : ∃ vol g mir slot, TellsR n z vol g mir slot y) => by obtain ⟨_, _, _, _, hy⟩ := hy; exact hy.may)
  clear hin hB hc6 hP HN c3 c4 c5
  go_wp2_with fail
  refine (rnumbers4_any H5 w6).mono ?_
  rintro e w7 ⟨G, rfl, hg, hc7⟩
  have HP7 := Lib.hid (HP6.out.gr hc7)
  have HG7 := Lib.hid hg
  clear hg hc7
  go_wp2
  go_loopw [8, 24, 25, 26, 27, 28, 29, 30, 31, 32, 33, 34, 35] (fun _ i _ _ _ _ _ _ _ _ _ _ _ wr => ∃ k : Nat, k ≤ 4 ∧ i = .int .i64 k ∧ Hid (ReadsR w1 B H5 (fun y => ∃ vol g mir slot, TellsR n z vol g mir slot y) o.seq o.epoch k wr) ∧ Hid (wr.heap[G]? = some (.cells (ptr4 H5) 136 (0, 0)))) (fun _ i _ _ _ _ _ _ _ _ _ _ _ _ => 4 - (intOf i).toNat)
  case atStart => exact ⟨0, Nat.zero_le _, rfl, HP7, HG7⟩
  case round =>
    obtain ⟨k, hk, rfl, HP, HGR⟩ := hrel
    by_cases hlt : k < 4
    · have i1 : (0 : Int) ≤ (k : Int) := Int.natCast_nonneg _
      have i2 : (k : Int) < 4 := by omega
      have hcell : wr.cell? ⟨G, k, none⟩ = some (.pointer (some ⟨H5, 2 + k, none⟩)) := by rw [blk_cell HGR.out]; exact ptr4_cells H5 hlt
      have HS := Lib.hid (HP.out.step HBB.out HH5.out HY.out hlt HGR.out)
      have HLT := Lib.hid hlt
      clear hlt
      obtain ⟨f, hf⟩ : ∃ f, f = 2 + k := ⟨_, rfl⟩
      rw [← hf] at hcell HS
      clear hf
      go_wp2_with fail
      refine HS.out.mono ?_
      rintro e w8 ⟨v, E8, c8, rfl, q1, q2, q3, q4⟩
      have HP8 := Lib.hid q3
      have HG8 := Lib.hid q4
      clear q3 q4 hcell
      go_wp2
      go_roundw
      case rel => exact ⟨k + 1, HLT.out, by go_num, HP8, HG8⟩
      case measure => have := HLT.out; simp [intOf]; omega
    · obtain rfl : k = 4 := by omega
      obtain ⟨⟨V9, v1, v2⟩, ⟨x9, n9, z9, hi9, hb9, hn9⟩, p4⟩ := HP.out
      obtain ⟨k9, e9, hr9⟩ := Cod.rd_some n9 z9
      have hbx : wr.heap[B]? = some (.cells #[x9] 172 (0, 0)) := hi9.box
      have nHB : H5 ≠ B := cells_ne v1 hbx (by decide)
      have HI := Lib.hid (ibytes_any B n9 x9 z9 k9 e9 wr hi9 hr9 (by omega))
      have HLA := Lib.hid (hb9.last HY.out hr9)
      have HNB := Lib.hid nHB
      have HV9 := Lib.hid v1
      have HV2 := Lib.hid v2
      have HP4 := Lib.hid p4
      have hsz := blk_lt v1
      clear hlt hk hi9 hb9 hr9 hbx v1 v2 p4 nHB hsz
      rw [show ((4 : Nat) : Int) = 4 from rfl]
      go_wp2_with fail
      refine HI.out.mono ?_
      rintro e wB ⟨y, rfl, hy, hyo, _, _, _, hcB⟩
      obtain ⟨L, hL⟩ : ∃ L, L = rowL (bL n9 z9 k9 e9) (fun i => z9 (Cod.resK T63 z9 k9 e9 + i)) := ⟨_, rfl⟩
      have hLl : L.length = bL n9 z9 k9 e9 := by rw [hL]; exact rowL_len _ _
      have hvB := (hcB.block H5 (blk_lt HV9.out) HNB.out).trans HV9.out
      have hN : RowN w1 wB y L.length (Cod.litZ L) := by
        have := RowN.own (w := w1) hyo (by have := bL_le n9 z9 k9 e9; omega) hy.bytes HP4.out.size
        rw [hLl]
        exact this.congr fun c hc => by rw [hL]; exact (rowL_litz _ (fun i => z9 (Cod.resK T63 z9 k9 e9 + i)) hc).symm
      have hbL : ∀ c ∈ L, c < 256 := by rw [hL]; exact rowL_b hy.bytes
      have hch : Ch (fun _ => False) w1 wB := HP4.out.new (hcB.mono fun i _ hi => by rw [hi]; exact HBB.out)
      have hc6 : wB.cell? ⟨H5, 6, none⟩ = some (.slice none 0 0) := blk_cell hvB
      have hf6 : wB.frozen? ⟨H5, 6, none⟩ = false := blk_frozen hvB
      obtain ⟨wC, hwC⟩ : ∃ wC, wC = wB.setCell ⟨H5, 6, none⟩ y := ⟨_, rfl⟩
      have kset : Ch (fun i => i = H5) wB wC := by rw [hwC]; exact Ch.setCell (S := fun i => i = H5) (Ch.refl _ wB) (p := ⟨H5, 6, none⟩) (Or.inl rfl) y
      have hvC : wC.heap[H5]? = some (.cells (pcC (pnOf o.seq o.epoch V9 L) y) 26 (0, 0)) := by rw [hwC]; exact blk_set (i := 6) hvB y
      have hNC := hN.set kset hvB (by decide)
      have hchC : Ch (fun _ => False) w1 wC := hch.new (kset.mono fun i _ hi => by rw [hi]; exact HH5.out)
      have hxC := (hchC.block H (blk_lt (o := .cells (pcC pn0 (.slice none 0 0)) 26 (0, 0)) HZ.out.cx) (fun f => f)).trans HZ.out.cx
      have hyS : SlV y := by obtain ⟨A, C, e⟩ := hNC.len; exact ⟨_, _, _, e⟩
      obtain ⟨wD, hD⟩ := stPc (pnOf o.seq o.epoch V9 L) hxC hyS
      have HFIN := Lib.hid (show ReadPostR n z w (.returned (.agg (pcC (pnOf o.seq o.epoch V9 L) y))) wD from ⟨_, y, rfl, (hNC.set hD.ch hxC (by decide)).low HZ.out.ch.size, hbL, fun vol g mir slot y' hy' => by
        have s := hy'.back V
        rw [← openB_yes hy'.opens V, ← HO.out] at s
        obtain ⟨_, hl2⟩ := HLA.out y' ⟨vol, g, mir, slot, hy'⟩
        exact pnOf_eq s.seq s.epoch (fun c hc => HV2.out y' ⟨vol, g, mir, slot, hy'⟩ c hc) (hL.trans hl2), (HZ.out.ch.trans hchC).new (hD.ch.mono fun i _ hi => by rw [hi, ← HZ.out.sz]; exact Nat.le_refl _)⟩)
      have HLD := Lib.hid (load_pc hvC)
      have HD := Lib.hid hD
      have HWC := Lib.hid hwC
      obtain ⟨E9, hE9⟩ : ∃ E9, E9 = bE n9 z9 k9 e9 := ⟨_, rfl⟩
      obtain ⟨ya, yn, yc, rfl⟩ := hyS
      rw [← hE9]
      clear hy hyo hcB hL hLl hvB hN hbL hch kset hvC hNC hchC hxC hD hwC hE9
      go_wp2_with (first
        | (with_reducible (rw [← HWC.out]; ((with_reducible refine wpList_isOp (.load 26 (.tmp 5)) rfl ?_); refine wpList_loading _ rfl 26 (.tmp 5) rfl (.agg (pcC (pnOf o.seq o.epoch V9 L) (.slice ya yn yc))) ⟨H5, 0, none⟩ rfl (by exact HLD.out) ?_)))
        | ((with_reducible refine wpList_isOp (.load 26 (.tmp 5)) rfl ?_); refine wpList_loading _ rfl 26 (.tmp 5) rfl (.agg (pcC (pnOf o.seq o.epoch V9 L) (.slice ya yn yc))) ⟨H5, 0, none⟩ rfl (by exact HLD.out) ?_)
        | ((with_reducible refine wpList_isOp (.store 26 (.tmp 2) (.tmp 42)) rfl ?_); refine wpList_storing _ wD rfl 26 (.tmp 2) (.tmp 42) rfl (.agg (pcC (pnOf o.seq o.epoch V9 L) (.slice ya yn yc))) ⟨H, 0, none⟩ rfl rfl (by exact HD.out.st) ?_)
        | fail)
      exact bodyPost_ret (v := .agg (pcC (pnOf o.seq o.epoch V9 L) (.slice ya yn yc))) (results_cell_row Tryz.results48 _ _ H 26 (pcC (pnOf o.seq o.epoch V9 L) (.slice ya yn yc)) (0, 0) _ rfl HD.out.cx Tryz.underlying26 rfl size_pc) rfl HFIN.out
end Go.Proofs.YteleknojohnlbaaGreat
