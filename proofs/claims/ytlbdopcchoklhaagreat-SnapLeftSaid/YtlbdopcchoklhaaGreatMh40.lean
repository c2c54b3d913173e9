/-
  The program's Read of what may be, walked.
-/
import Derived.Test.YtlbdopcchoklhaaGreatMh39
namespace Go.Proofs.YtlbdopcchoklhaaGreat
open Go.RowKit
set_option linter.unusedVariables false
set_option maxRecDepth 100000
set_option linter.unusedSimpArgs false
attribute [local go_sem] Oper.semAt_some wide_fn wide_depth

set_option maxHeartbeats 25600000 in
theorem sread_yes (base : Nat) (p : Ph) (d : Dev) (c0 : Nat) (vol no : Int) (n : Gn) (a long : Nat) (w : World) (hd : DevIs base w p (opD d c0)) (hc0 : c0 ≤ 900000) (hW : d.W.length ≤ 1000000) (hdd : d.dead = false) (hn : n.Ok) (ha : a ≤ 1) (hv : 0 ≤ vol ∧ vol ≤ 4294967295) (ho : 0 ≤ no ∧ no ≤ 4294967295) (hl : long ≤ n.S * n.K * 228) :
    Calls Tryz.prog 22 #[.pointer (some ⟨p.B, 0, none⟩), .int .i64 vol, .agg (geC n.ge), .int .i64 (a : Int), .int .i64 no, .int .i64 (long : Int)] w (RdPost base p d c0 vol no n a long w) := by
  obtain ⟨w2, H, w6, Bp, Bv, Ba, Bn, R, E, hR, ⟨e1, e2, e3, e4, e5, e6⟩, hw6, hV⟩ := reV w (some ⟨p.B, 0, none⟩) vol (a : Int) no n.ge
  have HR := Lib.hid hR
  have HV := Lib.hid hV
  have HQ := Lib.hid (And.intro e1 (And.intro e2 (And.intro e3 (And.intro e4 (And.intro e5 (And.intro e6 hw6))))))
  have HM := Lib.hid (fun w => snmay_any vol n.ge (a : Int) 0 0 no w)
  rw [pts_may hn ha hv ⟨Int.le_refl 0, by omega⟩ ho] at HM
  have HRM := Lib.hid (fun w => room_any n.ge w)
  rw [room_ge hn] at HRM
  obtain ⟨T, hT⟩ : ∃ T, T = n.S * n.K * 228 := ⟨_, rfl⟩
  have hsk := sk_le hn
  have hTb : T ≤ 116736 := by rw [hT]; omega
  rw [← hT] at HRM hl
  have HW := Lib.hid (fun w => swn_any (long : Int) 0 (T : Int) w)
  rw [show inB (long : Int) 0 (T : Int) = true from decide_eq_true (by omega)] at HW
  have HN := Lib.hid hn
  have HA := Lib.hid ha
  have HARG := Lib.hid (And.intro hv ho)
  have HT := Lib.hid hT
  have HL := Lib.hid hl
  have HTB := Lib.hid hTb
  have HD := Lib.hid hd
  have HDEAD := Lib.hid hdd
  have HOPS := Lib.hid (And.intro hc0 hW)
  have HFT := Lib.hid (fun i (hi : Foot p d i) => (hd.foot (foot_op.2 hi)).2)
  have HDA := Lib.hid (fun w' (k : Ch (fun _ => False) w w') => dead_any base p (opD d c0) w' (hd.gr k))
  rw [show (opD d c0).dead = false from hdd] at HDA
  have l0 : (0 : Int) ≤ (long : Int) := Int.natCast_nonneg _
  clear hR hV e1 e2 e3 e4 e5 e6 hw6 hn ha hv ho hl hT hsk hTb hd hdd hc0 hW
  refine (callsIn_wide (n := 9)).1 ?_
  refine callsIn_of_wp_marks Tryz.func22 rfl trivial ?_ rfl
  simp only [Tryz.ntmps22, List.size_toArray, List.length_cons, List.length_nil, Nat.reduceAdd, Nat.reduceSub, Array.replicate_succ, Array.replicate_zero, List.push_toArray, List.append_toArray, List.nil_append, List.cons_append]
  gi_upto_region 0 with fail
  refine wpIn_wide.2 ?_
  go_wp2_with (first | ((with_reducible refine wpList_isOp (.box 23 (.tmp 2)) rfl ?_); refine wpList_boxing _ w2 rfl 23 (.tmp 2) rfl (geC n.ge) H rfl (by exact HR.out.sz) (by exact HR.out.al) ?_) | fail)
  obtain ⟨e1, e2, e3, e4, e5, e6, hw6⟩ := HQ.out
  rw [← hw6, ← e6, ← e5, ← e4, ← e3, ← e2, ← e1]
  clear e1 e2 e3 e4 e5 e6 hw6
  have cp : w6.cell? ⟨Bp, 0, none⟩ = some (.pointer (some ⟨p.B, 0, none⟩)) := blk_cell HV.out.p
  have cv : w6.cell? ⟨Bv, 0, none⟩ = some (.int .i64 vol) := blk_cell HV.out.v
  have ch0 : w6.cell? ⟨H, 0, none⟩ = some (.int .i64 (n.W : Int)) := blk_cell HV.out.h
  have ch1 : w6.cell? ⟨H, 1, none⟩ = some (.int .i64 (n.S : Int)) := blk_cell HV.out.h
  have ch2 : w6.cell? ⟨H, 2, none⟩ = some (.int .i64 (n.K : Int)) := blk_cell HV.out.h
  have ch3 : w6.cell? ⟨H, 3, none⟩ = some (.int .i64 (n.M : Int)) := blk_cell HV.out.h
  have ca : w6.cell? ⟨Ba, 0, none⟩ = some (.int .i64 (a : Int)) := blk_cell HV.out.a
  have cn : w6.cell? ⟨Bn, 0, none⟩ = some (.int .i64 no) := blk_cell HV.out.n
  go_wp2
  gi_upto_region 1 with fail
  refine wpIn_wide.2 ?_
  go_wp2_with fail
  refine (HM.out _).mono ?_
  rintro e w7 ⟨rfl, hc7⟩
  have HV7 := Lib.hid (HV.out.gr hc7)
  clear hc7 cp cv ch0 ch1 ch2 ch3 ca cn
  have cp : w7.cell? ⟨Bp, 0, none⟩ = some (.pointer (some ⟨p.B, 0, none⟩)) := blk_cell HV7.out.p
  have cv : w7.cell? ⟨Bv, 0, none⟩ = some (.int .i64 vol) := blk_cell HV7.out.v
  have ch0 : w7.cell? ⟨H, 0, none⟩ = some (.int .i64 (n.W : Int)) := blk_cell HV7.out.h
  have ch1 : w7.cell? ⟨H, 1, none⟩ = some (.int .i64 (n.S : Int)) := blk_cell HV7.out.h
  have ch2 : w7.cell? ⟨H, 2, none⟩ = some (.int .i64 (n.K : Int)) := blk_cell HV7.out.h
  have ch3 : w7.cell? ⟨H, 3, none⟩ = some (.int .i64 (n.M : Int)) := blk_cell HV7.out.h
  have ca : w7.cell? ⟨Ba, 0, none⟩ = some (.int .i64 (a : Int)) := blk_cell HV7.out.a
  have cn : w7.cell? ⟨Bn, 0, none⟩ = some (.int .i64 no) := blk_cell HV7.out.n
  go_wp2_with fail
  refine (HRM.out _).mono ?_
  rintro e w8 ⟨rfl, hc8⟩
  have HV8 := Lib.hid (HV7.out.gr hc8)
  clear hc8 cp cv ch0 ch1 ch2 ch3 ca cn
  go_wp2_with fail
  refine (HW.out _).mono ?_
  rintro e w9 ⟨rfl, rfl⟩
  have cp : w8.cell? ⟨Bp, 0, none⟩ = some (.pointer (some ⟨p.B, 0, none⟩)) := blk_cell HV8.out.p
  have HDW := Lib.hid (HDA.out w8 HV8.out.ch)
  go_wp2
  gi_upto_region 3 with fail
  refine wpIn_wide.2 ?_
  go_wp2_with fail
  refine HDW.out.mono ?_
  rintro e w9 ⟨rfl, rfl⟩
  clear cp HDW
  go_wp2
  gi_upto_region 6 with fail
  obtain ⟨wa, hwa⟩ : ∃ wa, wa = w8.alloc (.cells #[.slice none 0 0] /-t-/24) := ⟨_, rfl⟩
  obtain ⟨Lb, hLb⟩ : ∃ b, b = w8.heap.size := ⟨_, rfl⟩
  rw [← hwa, ← hLb]
  have ka : Ch (fun _ => False) w8 wa := by rw [hwa]; exact (Ch.refl _ w8).alloc _ _
  have HLBA : Hid (wa.heap[Lb]? = some (.cells #[.slice none 0 0] /-t-/24 (0, 0))) := Lib.hid (by rw [hwa, hLb]; exact heap_alloc_new _ _)
  have HVA := Lib.hid (HV8.out.gr ka)
  have HNUM := Lib.hid (show Bp < Lb ∧ Bv < Lb ∧ H < Lb ∧ Ba < Lb ∧ Bn < Lb ∧ R < Lb ∧ E < Lb ∧ w.heap.size ≤ Lb from ⟨by rw [hLb]; exact blk_lt HV8.out.p, by rw [hLb]; exact blk_lt HV8.out.v, by rw [hLb]; exact blk_lt HV8.out.h, by rw [hLb]; exact blk_lt HV8.out.a, by rw [hLb]; exact blk_lt HV8.out.n, by rw [hLb]; exact blk_lt HV8.out.r, by rw [hLb]; exact blk_lt HV8.out.x, by rw [hLb]; exact HV8.out.ch.size⟩)
  clear hwa hLb ka HV8
  have cp : wa.cell? ⟨Bp, 0, none⟩ = some (.pointer (some ⟨p.B, 0, none⟩)) := blk_cell HVA.out.p
  have cv : wa.cell? ⟨Bv, 0, none⟩ = some (.int .i64 vol) := blk_cell HVA.out.v
  have ch0 : wa.cell? ⟨H, 0, none⟩ = some (.int .i64 (n.W : Int)) := blk_cell HVA.out.h
  have ch1 : wa.cell? ⟨H, 1, none⟩ = some (.int .i64 (n.S : Int)) := blk_cell HVA.out.h
  have ch2 : wa.cell? ⟨H, 2, none⟩ = some (.int .i64 (n.K : Int)) := blk_cell HVA.out.h
  have ch3 : wa.cell? ⟨H, 3, none⟩ = some (.int .i64 (n.M : Int)) := blk_cell HVA.out.h
  have ca : wa.cell? ⟨Ba, 0, none⟩ = some (.int .i64 (a : Int)) := blk_cell HVA.out.a
  have cn : wa.cell? ⟨Bn, 0, none⟩ = some (.int .i64 no) := blk_cell HVA.out.n
  refine wpIn_wide.2 ?_
  go_wp2_with fail
  refine (stripes_any n.ge (a : Int) wa).mono ?_
  rintro e wL ⟨Hg, Ha, rfl, hg1, ha1, hg2, ha2, hcL⟩
  have HVL := Lib.hid (HVA.out.gr hcL)
  have HLL := Lib.hid ((hcL.block _ (blk_lt HLBA.out) (fun f => f)).trans HLBA.out)
  have HGL := Lib.hid (And.intro hg1 ha1)
  have HNL := Lib.hid (show Lb < wL.heap.size ∧ (Hg < wL.heap.size ∧ Lb < Hg) ∧ (Ha < wL.heap.size ∧ Lb < Ha) by
    have h1 := blk_lt HLBA.out
    have h2 := hcL.size
    exact ⟨by omega, ⟨blk_lt hg1, by omega⟩, ⟨blk_lt ha1, by omega⟩⟩)
  clear hcL hg1 ha1 hg2 ha2 cp cv ch0 ch1 ch2 ch3 ca cn HVA HLBA
  have HFL : Hid (∀ i, Foot p d i → i < w.heap.size ∧ (i < wL.heap.size ∧ i ≠ Lb)) := Lib.hid fun i hi => by
    have h1 := HFT.out i hi
    have h2 := HNUM.out
    have h3 := HNL.out.1
    exact ⟨h1, by omega, by omega⟩
  have HSG : Hid (∀ W', Ch (fun i => Foot p d i ∨ i = Lb) wL W' → W'.cell? ⟨Bp, 0, none⟩ = some (.pointer (some ⟨p.B, 0, none⟩)) ∧ W'.cell? ⟨Bv, 0, none⟩ = some (.int .i64 vol) ∧ W'.cell? ⟨H, 0, none⟩ = some (.int .i64 (n.W : Int)) ∧ W'.cell? ⟨H, 1, none⟩ = some (.int .i64 (n.S : Int)) ∧ W'.cell? ⟨H, 2, none⟩ = some (.int .i64 (n.K : Int)) ∧ W'.cell? ⟨H, 3, none⟩ = some (.int .i64 (n.M : Int)) ∧ W'.cell? ⟨Ba, 0, none⟩ = some (.int .i64 (a : Int)) ∧ W'.cell? ⟨Bn, 0, none⟩ = some (.int .i64 no)) := Lib.hid fun W' k => by
    have q := HNUM.out
    have o := HVL.out.ord
    have off : ∀ i, w.heap.size ≤ i → i < Lb → ¬ (Foot p d i ∨ i = Lb) := fun i h1 h2 h3 => by
      rcases h3 with h3 | h3
      · have := (HFL.out i h3).1; omega
      · omega
    have nP := off Bp (by omega) (by omega)
    have nV := off Bv (by omega) (by omega)
    have nH := off H (by omega) (by omega)
    have nA := off Ba (by omega) (by omega)
    have nN := off Bn (by omega) (by omega)
    exact ⟨k.cell (blk_cell HVL.out.p) nP, k.cell (blk_cell HVL.out.v) nV, k.cell (blk_cell HVL.out.h) nH, k.cell (blk_cell HVL.out.h) nH, k.cell (blk_cell HVL.out.h) nH, k.cell (blk_cell HVL.out.h) nH, k.cell (blk_cell HVL.out.a) nA, k.cell (blk_cell HVL.out.n) nN⟩
  have HI0 : Hid (RdI base p d c0 vol no n a wL Lb [] (.slice none 0 0) (fun _ _ _ => 0) c0 wL) := Lib.hid ⟨HLL.out, by
    show wL.ownsRow _ _ _ _ (0 * (n.K * 228)) _
    rw [show ([] : List Nat).length * (n.K * 228) = 0 from Nat.zero_mul _, Nat.zero_mul]
    exact World.ownsRow_nil _ _ _ _, fun j hj => absurd hj (Nat.not_lt_zero j), by show c0 ≤ c0 + 0 * n.q; omega, HD.out.gr HVL.out.ch, Ch.refl _ _⟩
  have HWL := Lib.hid HVL.out.ch.size
  go_wp2
  gi_wp2
  refine wpIn_rangeFunc_ownG (ps := #[37, 38]) rfl (by omega) (gf := 63) (lb := #[.pointer (some ⟨Hg, 0, none⟩), .pointer (some ⟨Ha, 0, none⟩)]) rfl trivial (enters_of Tryz.func63 (by kernel_rfl) rfl)
    (encs := encS n a) (Kp := KpStr Hg Ha) (S := fun ys => ys.map Fin.val = List.range n.S) (Sp := fun pre => ∃ k, k ≤ n.S ∧ pre.map Fin.val = List.range k) (N := n.S) (w0 := wL)
    (fun l J Jx W hW hJ hJx hY h0 => stripes1_in 8 (by omega) l Hg Ha n a HN.out HA.out J Jx W hJ hY ((hW.block Hg (blk_lt HGL.out.1)).trans HGL.out.1) ((hW.block Ha (blk_lt HGL.out.2)).trans HGL.out.2) h0)
    (fun h k => h.trans k) (fun W l o o' _ ho hc _ => KpX.put ho hc) (Below.refl _ _) (fun _ => rfl)
    (fun l W => ∃ v Ds c, RdI base p d c0 vol no n a wL Lb (l.map Fin.val) v Ds c W) (fun c l W => c = .ret ∧ RdX base p d c0 vol no n a wL Lb R E W) (fun l W W' row ⟨v, Ds, c, h⟩ hg hr => ⟨v, Ds, c, h.nc hg hr⟩) (fun c l W W' row ⟨h1, h⟩ hg hr => ⟨h1, h.nc hg hr⟩)
    ⟨_, _, _, HI0.out⟩
    (fun y => { tmps := #[.pointer (some ⟨p.B, 0, none⟩), .int .i64 vol, .agg (geC n.ge), .int .i64 (a : Int), .int .i64 no, .int .i64 (long : Int), .pointer (some ⟨Bp, 0, none⟩), .pointer (some ⟨Bv, 0, none⟩), .pointer (some ⟨H, 0, none⟩), .pointer (some ⟨Ba, 0, none⟩), .pointer (some ⟨Bn, 0, none⟩), undef, .pointer (some ⟨R, 0, none⟩), .pointer (some ⟨E, 0, none⟩), .pointer (some ⟨Lb, 0, none⟩), .int .i64 (y.1 : Int), .int .i64 (frsN n a y.1 : Int), undef, undef, .int .i64 vol, .agg #[.int .i64 (n.W : Int), .int .i64 (n.S : Int), .int .i64 (n.K : Int), .int .i64 (n.M : Int)], .int .i64 (a : Int), .int .i64 no, .bool true, .bool false, .bool false, .int .i64 (long : Int), .agg #[.int .i64 (n.W : Int), .int .i64 (n.S : Int), .int .i64 (n.K : Int), .int .i64 (n.M : Int)], .int .i64 (T : Int), .bool true, .bool false, .bool false, .pointer (some ⟨p.B, 0, none⟩), .bool false, .agg #[.int .i64 (n.W : Int), .int .i64 (n.S : Int), .int .i64 (n.K : Int), .int .i64 (n.M : Int)], .int .i64 (a : Int), .func (.func 63) #[] #[.pointer (some ⟨Hg, 0, none⟩), .pointer (some ⟨Ha, 0, none⟩)], .int .i64 (y.1 : Int), .int .i64 (frsN n a y.1 : Int), undef, undef, undef, undef, undef, undef, undef, undef, undef, undef, undef, undef, undef, undef, undef, undef, undef, undef, undef, undef, undef, undef, undef, undef, undef, undef, undef, undef, undef, undef], defers := [] }) ?assign ?body ?done ?stop
  case assign =>
    intro l y W K hK
    rw [zipS]
    simp only [List.setIfInBounds_toArray, List.set_cons_zero, List.set_cons_succ]
    gi_wp2
    exact hK
  case body =>
    rintro l pre y W ⟨vb, Ds, c, hI⟩ hlen
    obtain ⟨s, hsy⟩ : ∃ s, s = y.1 := ⟨_, rfl⟩
    have hs : s < n.S := by rw [hsy]; exact y.2
    have hml : (pre.map Fin.val).length = pre.length := List.length_map _
    obtain ⟨L, hLd⟩ : ∃ L, L = pre.map Fin.val := ⟨_, rfl⟩
    rw [← hLd] at hI hml
    have HLG : Hid ((pre ++ [y]).map Fin.val = L ++ [s] ∧ L.length < n.S) := Lib.hid ⟨by rw [List.map_append, hLd, hsy]; rfl, by omega⟩
    have HIW := Lib.hid hI
    have HS0 := Lib.hid hs
    obtain ⟨at0, hat⟩ : ∃ at0, at0 = frsN n a s := ⟨_, rfl⟩
    have hfl := frsN_lt HN.out HA.out hs (i := 0) (by have := HN.out.q1; omega)
    have htt := HN.out.tot2
    rw [← hsy, ← hat]
    rw [← hat] at hfl
    have HAT := Lib.hid hat
    have hat2 : at0 ≤ 2564 := by omega
    have hqq := HN.out.q2
    have M1 : Hid (IntKind.i64.wrap ((n.K : Int) + (n.M : Int)) = (n.q : Int)) := Lib.hid (by
      have := HN.out.k2
      have := HN.out.m2
      rw [wrapI_in (by omega) (by omega)]
      unfold Gn.q
      omega)
    obtain ⟨wd, hwd⟩ : ∃ wd, wd = W.drew := ⟨_, rfl⟩
    have HDR0 := Lib.hid (show Ch (fun _ => False) W wd by rw [hwd]; exact (Ch.refl _ W).drew)
    have HDR := Lib.hid (ch_then hI.ch HDR0.out fun _ f => f.elim)
    have hcb : c ≤ 1000000 := by
      have h1 := hI.ops
      have h2 := HOPS.out.1
      have h3 : L.length * n.q ≤ 32 * 24 := Nat.mul_le_mul (by have := HLG.out.2; have := HN.out.s2; omega) hqq
      omega
    have HLD := Lib.hid (snload_any base p d c at0 n.q wd (hI.dev.gr HDR0.out) hcb HOPS.out.2 hat2 hqq)
    have ha0 : (0 : Int) ≤ (at0 : Int) := Int.natCast_nonneg _
    have hq0 : (0 : Int) ≤ (n.q : Int) := Int.natCast_nonneg _
    have hk0 : (0 : Int) ≤ (n.K : Int) := Int.natCast_nonneg _
    have hkq : (n.K : Int) ≤ (n.q : Int) := by unfold Gn.q; omega
    have hk1 : (1 : Int) ≤ (n.K : Int) := by have := HN.out.k1; omega
    clear hI hsy hs hml hLd hlen hat hfl htt hcb hat2 hqq
    gi_upto_region 9 with fail
    refine wpIn_round_held (fun W' => W'.cell? ⟨Bp, 0, none⟩ = some (.pointer (some ⟨p.B, 0, none⟩)) ∧ W'.cell? ⟨Bv, 0, none⟩ = some (.int .i64 vol) ∧ W'.cell? ⟨H, 0, none⟩ = some (.int .i64 (n.W : Int)) ∧ W'.cell? ⟨H, 1, none⟩ = some (.int .i64 (n.S : Int)) ∧ W'.cell? ⟨H, 2, none⟩ = some (.int .i64 (n.K : Int)) ∧ W'.cell? ⟨H, 3, none⟩ = some (.int .i64 (n.M : Int)) ∧ W'.cell? ⟨Ba, 0, none⟩ = some (.int .i64 (a : Int)) ∧ W'.cell? ⟨Bn, 0, none⟩ = some (.int .i64 no)) (by kernel_rfl) (by kernel_rfl) (fun ⟨_, _, h⟩ => h) ?_
    change wpAnyH _ _ _ _ _ _ _ _ (World.drew _)
    rw [← hwd]
    clear hwd
    have HS := HSG.out _ HDR.out
    refine wpAnyH_take (i := 0) (oi := ⟨some 40, .load 46 (.tmp 6), _, _, _, none⟩) (v := .pointer (some ⟨p.B, 0, none⟩)) rfl (by kernel_rfl) (by kernel_rfl) (by kernel_rfl) (fun _ _ _ h => h) (Or.inl ⟨by rfl, fun w' hS => ?_⟩) HS ?_
    · obtain ⟨zp, zv, z0, z1, z2, z3, za, zn⟩ := hS
      go_simp
    simp only [Act.put, List.setIfInBounds_toArray, List.set_cons_zero, List.set_cons_succ]
    refine wpAnyH_take (i := 1) (oi := ⟨some 41, .move (.tmp 16), _, _, _, none⟩) (v := .int .i64 (at0 : Int)) rfl (by kernel_rfl) (by kernel_rfl) (by kernel_rfl) (fun _ _ _ h => h) (Or.inl ⟨by rfl, fun w' hS => ?_⟩) HS ?_
    · clear hS; go_simp
    simp only [Act.put, List.setIfInBounds_toArray, List.set_cons_zero, List.set_cons_succ]
    refine wpAnyH_take (i := 2) (oi := ⟨some 42, .fieldAddr 23 (.tmp 8) 2, _, _, _, none⟩) (v := .pointer (some ⟨H, 2, none⟩)) rfl (by kernel_rfl) (by kernel_rfl) (by kernel_rfl) (fun _ _ _ h => h) (Or.inl ⟨by rfl, fun w' hS => ?_⟩) HS ?_
    · clear hS; go_simp
    simp only [Act.put, List.setIfInBounds_toArray, List.set_cons_zero, List.set_cons_succ]
    refine wpAnyH_take (i := 3) (oi := ⟨some 43, .load /-t-/3 (.tmp 42), _, _, _, none⟩) (v := .int .i64 (n.K : Int)) rfl (by kernel_rfl) (by kernel_rfl) (by kernel_rfl) (fun _ _ _ h => h) (Or.inl ⟨by rfl, fun w' hS => ?_⟩) HS ?_
    · obtain ⟨zp, zv, z0, z1, z2, z3, za, zn⟩ := hS
      go_simp
    simp only [Act.put, List.setIfInBounds_toArray, List.set_cons_zero, List.set_cons_succ]
    refine wpAnyH_take (i := 4) (oi := ⟨some 44, .fieldAddr 23 (.tmp 8) 3, _, _, _, none⟩) (v := .pointer (some ⟨H, 3, none⟩)) rfl (by kernel_rfl) (by kernel_rfl) (by kernel_rfl) (fun _ _ _ h => h) (Or.inl ⟨by rfl, fun w' hS => ?_⟩) HS ?_
    · clear hS; go_simp
    simp only [Act.put, List.setIfInBounds_toArray, List.set_cons_zero, List.set_cons_succ]
    refine wpAnyH_take (i := 5) (oi := ⟨some 45, .load /-t-/3 (.tmp 44), _, _, _, none⟩) (v := .int .i64 (n.M : Int)) rfl (by kernel_rfl) (by kernel_rfl) (by kernel_rfl) (fun _ _ _ h => h) (Or.inl ⟨by rfl, fun w' hS => ?_⟩) HS ?_
    · obtain ⟨zp, zv, z0, z1, z2, z3, za, zn⟩ := hS
      go_simp
    simp only [Act.put, List.setIfInBounds_toArray, List.set_cons_zero, List.set_cons_succ]
    refine wpAnyH_take (i := 6) (oi := ⟨some 46, .binOp .add /-t-/3 (.tmp 43) (.tmp 45) /-t-/3, _, _, _, none⟩) (v := .int .i64 (n.q : Int)) rfl (by kernel_rfl) (by kernel_rfl) (by kernel_rfl) (fun _ _ _ h => h) (Or.inl ⟨by rfl, fun w' hS => ?_⟩) HS ?_
    · clear hS; go_simp; rw [M1.out]
    simp only [Act.put, List.setIfInBounds_toArray, List.set_cons_zero, List.set_cons_succ]
    refine wpAnyH_take (i := 8) (oi := ⟨some 48, .load /-t-/3 (.tmp 7), _, _, _, none⟩) (v := .int .i64 vol) rfl (by kernel_rfl) (by kernel_rfl) (by kernel_rfl) (fun _ _ _ h => h) (Or.inl ⟨by rfl, fun w' hS => ?_⟩) HS ?_
    · obtain ⟨zp, zv, z0, z1, z2, z3, za, zn⟩ := hS
      go_simp
    simp only [Act.put, List.setIfInBounds_toArray, List.set_cons_zero, List.set_cons_succ]
    refine wpAnyH_take (i := 9) (oi := ⟨some 49, .load 23 (.tmp 8), _, _, _, none⟩) (v := .agg (geC n.ge)) rfl (by kernel_rfl) (by kernel_rfl) (by kernel_rfl) (fun _ _ _ h => h) (Or.inl ⟨by rfl, fun w' hS => ?_⟩) HS ?_
    · obtain ⟨zp, zv, z0, z1, z2, z3, za, zn⟩ := hS
      go_simp
      rfl
    simp only [Act.put, List.setIfInBounds_toArray, List.set_cons_zero, List.set_cons_succ]
    refine wpAnyH_take (i := 10) (oi := ⟨some 50, .load /-t-/3 (.tmp 9), _, _, _, none⟩) (v := .int .i64 (a : Int)) rfl (by kernel_rfl) (by kernel_rfl) (by kernel_rfl) (fun _ _ _ h => h) (Or.inl ⟨by rfl, fun w' hS => ?_⟩) HS ?_
    · obtain ⟨zp, zv, z0, z1, z2, z3, za, zn⟩ := hS
      go_simp
    simp only [Act.put, List.setIfInBounds_toArray, List.set_cons_zero, List.set_cons_succ]
    refine wpAnyH_take (i := 11) (oi := ⟨some 51, .move (.tmp 15), _, _, _, none⟩) (v := .int .i64 (s : Int)) rfl (by kernel_rfl) (by kernel_rfl) (by kernel_rfl) (fun _ _ _ h => h) (Or.inl ⟨by rfl, fun w' hS => ?_⟩) HS ?_
    · clear hS; go_simp
    simp only [Act.put, List.setIfInBounds_toArray, List.set_cons_zero, List.set_cons_succ]
    refine wpAnyH_take (i := 12) (oi := ⟨some 52, .load /-t-/3 (.tmp 10), _, _, _, none⟩) (v := .int .i64 no) rfl (by kernel_rfl) (by kernel_rfl) (by kernel_rfl) (fun _ _ _ h => h) (Or.inl ⟨by rfl, fun w' hS => ?_⟩) HS ?_
    · obtain ⟨zp, zv, z0, z1, z2, z3, za, zn⟩ := hS
      go_simp
    simp only [Act.put, List.setIfInBounds_toArray, List.set_cons_zero, List.set_cons_succ]
    refine wpAnyH_ready (rs := [7]) (by kernel_rfl) (by simp) ?_
    refine AllReadyH.cons rfl (fun K hK => ?_) AllReadyH.nil
    go_simp
    refine HLD.out.mono ?_
    rintro e w4 ⟨B4, c4, rfl, hm4, hc4, hd4, hk4⟩
    dsimp only
    have HCW4 := Lib.hid (HDR.out.trans (hk4.mono fun _ _ q => Or.inl q))
    have HS4 := HSG.out _ HCW4.out
    refine hK.out _ _ HS4 (fun _ => ?_)
    clear hK K
    try simp only [Act.put, List.setIfInBounds_toArray, List.set_cons_zero, List.set_cons_succ]
    have HST := Lib.hid (sstripe_yes (some ⟨B4, 0, none⟩) n.q vol no n a s (rdL d at0) (rdZ d at0) w4 HN.out HA.out HS0.out HARG.out.1 HARG.out.2 hm4)
    have HD4 := Lib.hid hd4
    have HK4 := Lib.hid hk4
    have HC4 := Lib.hid hc4
    clear hm4 hc4 hd4 hk4 HS
    refine wpAnyH_ready (rs := [13]) (by kernel_rfl) (by simp) ?_
    refine AllReadyH.cons rfl (fun K hK => ?_) AllReadyH.nil
    go_simp
    refine HST.out.mono ?_
    rintro e w5 hst
    rw [← HAT.out] at hst
    rcases hst with ⟨hle, D, hD, v5, rfl, hm5, hc5⟩ | ⟨hlt5, rfl, hc5⟩
    · obtain ⟨A5, C5, rfl, hbnd, h5⟩ := id hm5
      have hkc : (n.K : Int) ≤ (C5 : Int) := by have := hbnd.2; omega
      obtain ⟨b5, o5, rfl, _⟩ := h5 (by have := HN.out.q1; omega)
      dsimp only
      have HCW5 := Lib.hid (ch_then HCW4.out hc5 fun _ f => f.elim)
      have HS5 := HSG.out _ HCW5.out
      refine hK.out _ _ HS5 (fun _ => ?_)
      clear hK K HS4
      try simp only [Act.put, List.setIfInBounds_toArray, List.set_cons_zero, List.set_cons_succ]
      refine wpAnyH_take (i := 14) (oi := ⟨some 39, .move (.tmp 53), _, _, _, none⟩) (v := .tuple #[.slice (some ⟨b5, o5, none⟩) n.q C5, .int .i64 0]) rfl (by kernel_rfl) (by kernel_rfl) (by kernel_rfl) (fun _ _ _ h => h) (Or.inl ⟨by rfl, fun w' hS => ?_⟩) HS5 ?_
      · clear hS; go_simp
      simp only [Act.put, List.setIfInBounds_toArray, List.set_cons_zero, List.set_cons_succ]
      refine wpAnyH_take (i := 15) (oi := ⟨some 54, .extract (.tmp 39) 0, _, _, _, none⟩) (v := .slice (some ⟨b5, o5, none⟩) n.q C5) rfl (by kernel_rfl) (by kernel_rfl) (by kernel_rfl) (fun _ _ _ h => h) (Or.inl ⟨by rfl, fun w' hS => ?_⟩) HS5 ?_
      · clear hS; go_simp
      simp only [Act.put, List.setIfInBounds_toArray, List.set_cons_zero, List.set_cons_succ]
      refine wpAnyH_take (i := 16) (oi := ⟨some 55, .extract (.tmp 39) 1, _, _, _, none⟩) (v := .int .i64 0) rfl (by kernel_rfl) (by kernel_rfl) (by kernel_rfl) (fun _ _ _ h => h) (Or.inl ⟨by rfl, fun w' hS => ?_⟩) HS5 ?_
      · clear hS; go_simp
      simp only [Act.put, List.setIfInBounds_toArray, List.set_cons_zero, List.set_cons_succ]
      refine wpAnyH_take (i := 17) (oi := ⟨some 17, .assign (.tmp 54), _, _, _, none⟩) (v := .slice (some ⟨b5, o5, none⟩) n.q C5) rfl (by kernel_rfl) (by kernel_rfl) (by kernel_rfl) (fun _ _ _ h => h) (Or.inl ⟨by rfl, fun w' hS => ?_⟩) HS5 ?_
      · clear hS; go_simp
      simp only [Act.put, List.setIfInBounds_toArray, List.set_cons_zero, List.set_cons_succ]
      refine wpAnyH_take (i := 18) (oi := ⟨some 18, .assign (.tmp 55), _, _, _, none⟩) (v := .int .i64 0) rfl (by kernel_rfl) (by kernel_rfl) (by kernel_rfl) (fun _ _ _ h => h) (Or.inl ⟨by rfl, fun w' hS => ?_⟩) HS5 ?_
      · clear hS; go_simp
      simp only [Act.put, List.setIfInBounds_toArray, List.set_cons_zero, List.set_cons_succ]
      refine wpAnyH_done (by kernel_rfl) ?_ _
      obtain ⟨wx, hwx⟩ : ∃ wx, wx = w5.drew := ⟨_, rfl⟩
      have kx : Ch (fun _ => False) w5 wx := by rw [hwx]; exact (Ch.refl _ w5).drew
      have hle2 : n.K ≤ leftN d vol no n a s := by unfold leftN; rw [← HAT.out]; exact hle
      have hD2 : DatS d vol no n a s D := by unfold DatS; rw [← HAT.out]; exact hD
      have k1 := HN.out.k1
      have HCO := Lib.hid (concB_any b5 o5 C5 n.K 228 (sharesZ n.K D) wx k1 (by have := HN.out.k2; omega) (by omega) (by omega) ((mat_front hm5 (show n.K ≤ n.q by unfold Gn.q; omega)).gr kx))
      have h4 : Ch (Foot p d) W wx := ((HDR0.out.mono fun _ _ f => f.elim).trans HK4.out).trans ((hc5.trans kx).mono fun _ _ f => f.elim)
      have HDX := Lib.hid (HD4.out.gr (hc5.trans kx))
      have hsz : (L.length + 1) * (n.K * 228) ≤ 1000000 := by
        have h1 : (L.length + 1) * (n.K * 228) ≤ n.S * (n.K * 228) := Nat.mul_le_mul_right _ HLG.out.2
        have h2 : n.S * (n.K * 228) = T := by rw [HT.out, Nat.mul_assoc]
        have h3 := HTB.out
        omega
      have HNX0 : Hid (∀ (w6 : World) (x6 : Value), OutSt wx (fun i => sharesZ n.K D (i / 228) (i % 228)) x6 (n.K * 228) w6 → ∃ v2 W2, (Builtin.append_ #[ /-t-/24, /-t-/24] /-t-/24 #[vb, x6]).run Tryz.prog w6 = .ok v2 W2 ∧ ∃ Ds', v2.ownBlock ≠ some Lb ∧ W2.heap[Lb]? = some (.cells #[vb] /-t-/24 (0, 0)) ∧ RdI base p d c0 vol no n a wL Lb (L ++ [s]) v2 Ds' c4 (W2.setCell ⟨Lb, 0, none⟩ v2) ∧ Ch (fun i => Foot p d i ∨ vb.ownBlock = some i ∨ i = Lb) W (W2.setCell ⟨Lb, 0, none⟩ v2)) := Lib.hid fun w6 x6 h =>
        HIW.out.next (fun i hi => (HFL.out i hi).2) HNL.out.1 h4 HDX.out HC4.out h.ch hle2 hD2 h hsz
      have HT : wx.cell? ⟨H, 2, none⟩ = some (.int .i64 (n.K : Int)) := kx.cell HS5.2.2.2.2.1 (fun f => f)
      have HLBX : Hid (wx.cell? ⟨Lb, 0, none⟩ = some vb) := Lib.hid (h4.cell (blk_cell HIW.out.var) (fun q => (HFL.out Lb q).2.2 rfl))
      have lbx := HLBX.out
      have HNH : Hid (Lb ≠ H) := Lib.hid (by have := HNUM.out; omega)
      have hlow := own_low HIW.out.own
      have HH7 : Hid (∀ (W2 : World) (v2 : Value), Ch (fun i => Foot p d i ∨ vb.ownBlock = some i ∨ i = Lb) W (W2.setCell ⟨Lb, 0, none⟩ v2) → W2.cell? ⟨H, 2, none⟩ = some (.int .i64 (n.K : Int))) := Lib.hid fun W2 v2 k => by
        have h1 : (W2.setCell ⟨Lb, 0, none⟩ v2).cell? ⟨H, 2, none⟩ = some (.int .i64 (n.K : Int)) := k.cell (HSG.out W HIW.out.ch).2.2.2.2.1 (fun q => by
          have h2 := HNUM.out
          have h3 := HVL.out.ord
          rcases q with q | q | q
          · have h4 : H < w.heap.size := (HFL.out H q).1
            omega
          · have h4 : wL.heap.size ≤ H := hlow H q
            have := HNL.out.1
            omega
          · have h4 : H = Lb := q
            omega)
        rw [World.cell?_setCell_other _ _ _ _ (fun q => HNH.out (congrArg Addr.block q))] at h1
        exact h1
      have HFIN0 : Hid (∀ (Wf : World) (v2 : Value) (Ds' : Nat → Nat → Nat → Nat), RdI base p d c0 vol no n a wL Lb (L ++ [s]) v2 Ds' c4 Wf → Ch (fun i => Foot p d i ∨ vb.ownBlock = some i ∨ i = Lb) W Wf → KeepsFrom wL.heap.size W Wf ∧ KpStr Hg Ha W Wf ∧ ∃ v Ds c, RdI base p d c0 vol no n a wL Lb ((pre ++ [y]).map Fin.val) v Ds c Wf) := Lib.hid fun Wf v2 Ds' h k => by
        refine ⟨keeps_cells k fun i q => ?_, KpX.of k fun i hi q => ?_, v2, Ds', c4, by rw [HLG.out.1]; exact h⟩
        · rcases q with q | q | q
          · exact Or.inl (HFL.out i q).2.1
          · obtain ⟨c, hc⟩ := own_cells HIW.out.own i q
            exact Or.inr ⟨_, _, _, hc⟩
          · exact Or.inl (by rw [q]; exact HNL.out.1)
        · have h2 := HNUM.out
          have h3 := HNL.out
          have h5 : Lb < i ∧ i < wL.heap.size := by rcases hi with rfl | rfl; exact ⟨h3.2.1.2, h3.2.1.1⟩; exact ⟨h3.2.2.2, h3.2.2.1⟩
          rcases q with q | q | q
          · have := (HFL.out i q).1; omega
          · have := hlow i q; omega
          · omega
      clear hle hD hm5 h5 hbnd hc5 kx hle2 hD2 h4 hsz k1 hlow HST HS5 HLD HK4 HD4 HC4
      gi_upto_region 12 with fail
      refine wpIn_round_held (fun W' => W'.cell? ⟨H, 2, none⟩ = some (.int .i64 (n.K : Int))) (by kernel_rfl) (by kernel_rfl) (fun ⟨_, _, h⟩ => h) ?_
      change wpAnyH _ _ _ _ _ _ _ _ (World.drew _)
      rw [← hwx]
      clear hwx
      refine wpAnyH_take (i := 1) (oi := ⟨some 60, .move (.tmp 17), _, _, _, none⟩) (v := .slice (some ⟨b5, o5, none⟩) n.q C5) rfl (by kernel_rfl) (by kernel_rfl) (by kernel_rfl) (fun _ _ _ h => h) (Or.inl ⟨by rfl, fun w' hS => ?_⟩) HT ?_
      · clear hS; go_simp
      simp only [Act.put, List.setIfInBounds_toArray, List.set_cons_zero, List.set_cons_succ]
      refine wpAnyH_take (i := 2) (oi := ⟨some 61, .fieldAddr 23 (.tmp 8) 2, _, _, _, none⟩) (v := .pointer (some ⟨H, 2, none⟩)) rfl (by kernel_rfl) (by kernel_rfl) (by kernel_rfl) (fun _ _ _ h => h) (Or.inl ⟨by rfl, fun w' hS => ?_⟩) HT ?_
      · clear hS; go_simp
      simp only [Act.put, List.setIfInBounds_toArray, List.set_cons_zero, List.set_cons_succ]
      refine wpAnyH_take (i := 3) (oi := ⟨some 62, .load /-t-/3 (.tmp 61), _, _, _, none⟩) (v := .int .i64 (n.K : Int)) rfl (by kernel_rfl) (by kernel_rfl) (by kernel_rfl) (fun _ _ _ h => h) (Or.inl ⟨by rfl, fun w' hS => ?_⟩) HT ?_
      · obtain zk := hS
        go_simp
      simp only [Act.put, List.setIfInBounds_toArray, List.set_cons_zero, List.set_cons_succ]
      refine wpAnyH_take (i := 4) (oi := ⟨some 63, .slice /-t-/37 (.tmp 60) none (some (.tmp 62)) none, _, _, _, none⟩) (v := .slice (some ⟨b5, o5, none⟩) n.K C5) rfl (by kernel_rfl) (by kernel_rfl) (by kernel_rfl) (fun _ _ _ h => h) (Or.inl ⟨by rfl, fun w' hS => ?_⟩) HT ?_
      · clear hS; go_simp
      simp only [Act.put, List.setIfInBounds_toArray, List.set_cons_zero, List.set_cons_succ]
      refine wpAnyH_ready (rs := [0, 5]) (by kernel_rfl) (by simp) ?_
      refine AllReadyH.cons rfl (fun K hK => ?_) (AllReadyH.cons rfl (fun K hK => ?_) AllReadyH.nil)
      · go_simp
        refine hK.out _ _ HT (fun _ => ?_)
        clear hK K
        try simp only [Act.put, List.setIfInBounds_toArray, List.set_cons_zero, List.set_cons_succ]
        refine wpAnyH_ready (rs := [5]) (by kernel_rfl) (by simp) ?_
        refine AllReadyH.cons rfl (fun K hK => ?_) AllReadyH.nil
        go_simp
        refine HCO.out.mono ?_
        rintro e w6 ⟨x6, rfl, hx6⟩
        dsimp only
        have HT6 := hx6.ch.cell HT (fun f => f)
        refine hK.out _ _ HT6 (fun _ => ?_)
        clear hK K
        try simp only [Act.put, List.setIfInBounds_toArray, List.set_cons_zero, List.set_cons_succ]
        have HNX := HNX0.out w6 x6 hx6
        obtain ⟨v2, W2, hr7, Ds', hne2, hv7, hi7, hk7⟩ := HNX
        have hlb6 : w6.cell? ⟨Lb, 0, none⟩ = some vb := hx6.ch.cell HLBX.out (fun f => f)
        refine wpAnyH_ready (rs := [6]) (by kernel_rfl) (by simp) ?_
        refine AllReadyH.cons rfl (fun K hK => ?_) AllReadyH.nil
        refine step_bytes_ofF (o := ⟨some 65, .call { callee := .builtin .append, args := #[.tmp 59, .tmp 64], argTypes := #[ /-t-/24, /-t-/24] }, _, _, _, none⟩) rfl (.tmp 59) (.tmp 64) rfl rfl vb x6 v2 W2 (by first | (simp [Act.eval]; done) | simp [Act.eval, Act.put]) (by first | (simp [Act.eval]; done) | simp [Act.eval, Act.put]) hr7 ?_
        have HT7 : W2.cell? ⟨H, 2, none⟩ = some (.int .i64 (n.K : Int)) := HH7.out W2 v2 hk7
        refine hK.out _ _ HT7 (fun _ => ?_)
        clear hK K
        try simp only [Act.put, List.setIfInBounds_toArray, List.set_cons_zero, List.set_cons_succ]
        refine wpAnyH_ready (rs := [7]) (by kernel_rfl) (by simp) ?_
        refine AllReadyH.cons rfl (fun K hK => ?_) AllReadyH.nil
        have lc : W2.cell? ⟨Lb, 0, none⟩ = some vb := blk_cell hv7
        have lf : W2.frozen? ⟨Lb, 0, none⟩ = false := blk_frozen hv7
        obtain ⟨Av, Cv, hv2⟩ := own_slice hi7.own
        obtain ⟨NV, hNV⟩ : ∃ NV, NV = (L ++ [s]).length * (n.K * 228) := ⟨_, rfl⟩
        rw [← hNV] at hv2
        clear hNV
        subst hv2
        go_simp
        have HT8 : ∀ vv : Value, (W2.setCell ⟨Lb, 0, none⟩ vv).cell? ⟨H, 2, none⟩ = some (.int .i64 (n.K : Int)) := fun vv => (World.cell?_setCell_other _ _ _ _ (fun q => HNH.out (congrArg Addr.block q))).trans HT7
        refine hK.out _ _ (HT8 _) (fun _ => ?_)
        clear hK K
        try simp only [Act.put, List.setIfInBounds_toArray, List.set_cons_zero, List.set_cons_succ]
        refine wpAnyH_done (by kernel_rfl) ?_ _
        have HFIN := HFIN0.out _ _ _ hi7 hk7
        clear hx6 hr7 hne2 hv7 hi7 hk7 lc lf HT7 HT8 hlb6
        gi_wp2
        exact HFIN
      · go_simp
        refine HCO.out.mono ?_
        rintro e w6 ⟨x6, rfl, hx6⟩
        dsimp only
        have HT6 := hx6.ch.cell HT (fun f => f)
        refine hK.out _ _ HT6 (fun _ => ?_)
        clear hK K
        try simp only [Act.put, List.setIfInBounds_toArray, List.set_cons_zero, List.set_cons_succ]
        have HNX := HNX0.out w6 x6 hx6
        obtain ⟨v2, W2, hr7, Ds', hne2, hv7, hi7, hk7⟩ := HNX
        have hlb6 : w6.cell? ⟨Lb, 0, none⟩ = some vb := hx6.ch.cell HLBX.out (fun f => f)
        refine wpAnyH_ready (rs := [0]) (by kernel_rfl) (by simp) ?_
        refine AllReadyH.cons rfl (fun K hK => ?_) AllReadyH.nil
        go_simp
        refine hK.out _ _ HT6 (fun _ => ?_)
        clear hK K
        try simp only [Act.put, List.setIfInBounds_toArray, List.set_cons_zero, List.set_cons_succ]
        refine wpAnyH_ready (rs := [6]) (by kernel_rfl) (by simp) ?_
        refine AllReadyH.cons rfl (fun K hK => ?_) AllReadyH.nil
        refine step_bytes_ofF (o := ⟨some 65, .call { callee := .builtin .append, args := #[.tmp 59, .tmp 64], argTypes := #[ /-t-/24, /-t-/24] }, _, _, _, none⟩) rfl (.tmp 59) (.tmp 64) rfl rfl vb x6 v2 W2 (by first | (simp [Act.eval]; done) | simp [Act.eval, Act.put]) (by first | (simp [Act.eval]; done) | simp [Act.eval, Act.put]) hr7 ?_
        have HT7 : W2.cell? ⟨H, 2, none⟩ = some (.int .i64 (n.K : Int)) := HH7.out W2 v2 hk7
        refine hK.out _ _ HT7 (fun _ => ?_)
        clear hK K
        try simp only [Act.put, List.setIfInBounds_toArray, List.set_cons_zero, List.set_cons_succ]
        refine wpAnyH_ready (rs := [7]) (by kernel_rfl) (by simp) ?_
        refine AllReadyH.cons rfl (fun K hK => ?_) AllReadyH.nil
        have lc : W2.cell? ⟨Lb, 0, none⟩ = some vb := blk_cell hv7
        have lf : W2.frozen? ⟨Lb, 0, none⟩ = false := blk_frozen hv7
        obtain ⟨Av, Cv, hv2⟩ := own_slice hi7.own
        obtain ⟨NV, hNV⟩ : ∃ NV, NV = (L ++ [s]).length * (n.K * 228) := ⟨_, rfl⟩
        rw [← hNV] at hv2
        clear hNV
        subst hv2
        go_simp
        have HT8 : ∀ vv : Value, (W2.setCell ⟨Lb, 0, none⟩ vv).cell? ⟨H, 2, none⟩ = some (.int .i64 (n.K : Int)) := fun vv => (World.cell?_setCell_other _ _ _ _ (fun q => HNH.out (congrArg Addr.block q))).trans HT7
        refine hK.out _ _ (HT8 _) (fun _ => ?_)
        clear hK K
        try simp only [Act.put, List.setIfInBounds_toArray, List.set_cons_zero, List.set_cons_succ]
        refine wpAnyH_done (by kernel_rfl) ?_ _
        have HFIN := HFIN0.out _ _ _ hi7 hk7
        clear hx6 hr7 hne2 hv7 hi7 hk7 lc lf HT7 HT8 hlb6
        gi_wp2
        exact HFIN
    · dsimp only
      have HCW5 := Lib.hid (ch_then HCW4.out hc5 fun _ f => f.elim)
      have HS5 := HSG.out _ HCW5.out
      refine hK.out _ _ HS5 (fun _ => ?_)
      clear hK K HS4
      try simp only [Act.put, List.setIfInBounds_toArray, List.set_cons_zero, List.set_cons_succ]
      refine wpAnyH_take (i := 14) (oi := ⟨some 39, .move (.tmp 53), _, _, _, none⟩) (v := .tuple #[.slice none 0 0, .int .i64 22]) rfl (by kernel_rfl) (by kernel_rfl) (by kernel_rfl) (fun _ _ _ h => h) (Or.inl ⟨by rfl, fun w' hS => ?_⟩) HS5 ?_
      · clear hS; go_simp
      simp only [Act.put, List.setIfInBounds_toArray, List.set_cons_zero, List.set_cons_succ]
      refine wpAnyH_take (i := 15) (oi := ⟨some 54, .extract (.tmp 39) 0, _, _, _, none⟩) (v := .slice none 0 0) rfl (by kernel_rfl) (by kernel_rfl) (by kernel_rfl) (fun _ _ _ h => h) (Or.inl ⟨by rfl, fun w' hS => ?_⟩) HS5 ?_
      · clear hS; go_simp
      simp only [Act.put, List.setIfInBounds_toArray, List.set_cons_zero, List.set_cons_succ]
      refine wpAnyH_take (i := 16) (oi := ⟨some 55, .extract (.tmp 39) 1, _, _, _, none⟩) (v := .int .i64 22) rfl (by kernel_rfl) (by kernel_rfl) (by kernel_rfl) (fun _ _ _ h => h) (Or.inl ⟨by rfl, fun w' hS => ?_⟩) HS5 ?_
      · clear hS; go_simp
      simp only [Act.put, List.setIfInBounds_toArray, List.set_cons_zero, List.set_cons_succ]
      refine wpAnyH_take (i := 17) (oi := ⟨some 17, .assign (.tmp 54), _, _, _, none⟩) (v := .slice none 0 0) rfl (by kernel_rfl) (by kernel_rfl) (by kernel_rfl) (fun _ _ _ h => h) (Or.inl ⟨by rfl, fun w' hS => ?_⟩) HS5 ?_
      · clear hS; go_simp
      simp only [Act.put, List.setIfInBounds_toArray, List.set_cons_zero, List.set_cons_succ]
      refine wpAnyH_take (i := 18) (oi := ⟨some 18, .assign (.tmp 55), _, _, _, none⟩) (v := .int .i64 22) rfl (by kernel_rfl) (by kernel_rfl) (by kernel_rfl) (fun _ _ _ h => h) (Or.inl ⟨by rfl, fun w' hS => ?_⟩) HS5 ?_
      · clear hS; go_simp
      simp only [Act.put, List.setIfInBounds_toArray, List.set_cons_zero, List.set_cons_succ]
      refine wpAnyH_done (by kernel_rfl) ?_ _
      have q := HNUM.out
      have o := HVL.out.ord
      have nR : ¬ (Foot p d R ∨ R = Lb) := fun q2 => by
        rcases q2 with q2 | q2
        · have := (HFL.out R q2).1; omega
        · omega
      have nE : ¬ (Foot p d E ∨ E = Lb) := fun q2 => by
        rcases q2 with q2 | q2
        · have := (HFL.out E q2).1; omega
        · omega
      have n1 : ¬ R = E := by omega
      have n2 : ¬ E = R := by omega
      have r5 := (HCW5.out.block R (blk_lt HVL.out.r) nR).trans HVL.out.r
      have x5 := (HCW5.out.block E (blk_lt HVL.out.x) nE).trans HVL.out.x
      have k1 : Ch (fun i => i = R) w5 (w5.setCell ⟨R, 0, none⟩ (.slice none 0 0)) := (Ch.refl (fun i => i = R) w5).setCell (p := ⟨R, 0, none⟩) (Or.inl rfl) _
      have r6 := var_set r5 (.slice none 0 0)
      have x6 := (k1.block E (blk_lt x5) n2).trans x5
      have k2 : Ch (fun i => i = E) (w5.setCell ⟨R, 0, none⟩ (.slice none 0 0)) ((w5.setCell ⟨R, 0, none⟩ (.slice none 0 0)).setCell ⟨E, 0, none⟩ (.int .i64 22)) := (Ch.refl (fun i => i = E) _).setCell (p := ⟨E, 0, none⟩) (Or.inl rfl) _
      have x7 := var_set x6 (.int .i64 22)
      have r7 := (k2.block R (blk_lt r6) n1).trans r6
      have kRE := (k1.mono (T := fun i => i = R ∨ i = E) fun _ _ e => Or.inl e).trans (k2.mono fun _ _ e => Or.inr e)
      have kW : Ch (fun i => Foot p d i ∨ (i = R ∨ i = E)) W ((w5.setCell ⟨R, 0, none⟩ (.slice none 0 0)).setCell ⟨E, 0, none⟩ (.int .i64 22)) := (((HDR0.out.mono fun _ _ f => f.elim).trans (HK4.out.mono fun _ _ q => Or.inl q)).trans (hc5.mono fun _ _ f => f.elim)).trans (kRE.mono fun _ _ q => Or.inr q)
      have hopc : c4 ≤ c0 + n.S * n.q := by
        have h1 := HIW.out.ops
        have h2 := HC4.out
        have h3 : (L.length + 1) * n.q ≤ n.S * n.q := Nat.mul_le_mul_right _ HLG.out.2
        rw [Nat.succ_mul] at h3
        omega
      have HFIN : Hid (KeepsFrom wL.heap.size W ((w5.setCell ⟨R, 0, none⟩ (.slice none 0 0)).setCell ⟨E, 0, none⟩ (.int .i64 22)) ∧ RdX base p d c0 vol no n a wL Lb R E ((w5.setCell ⟨R, 0, none⟩ (.slice none 0 0)).setCell ⟨E, 0, none⟩ (.int .i64 22))) := Lib.hid
        ⟨keeps_cells kW fun i q2 => Or.inl (by
          have := HNL.out.1
          rcases q2 with q2 | q2 | q2
          · exact (HFL.out i q2).2.1
          · omega
          · omega), ⟨s, HS0.out, by unfold leftN; rw [← HAT.out]; exact hlt5⟩, r7, x7, ⟨c4, hopc, (HD4.out.gr hc5).ch kRE fun i hi q2 => by
          have hi := (HFL.out i (foot_op.1 hi)).1
          rcases q2 with q2 | q2 <;> omega⟩, ch_then (HIW.out.ch.mono fun i _ q2 => q2.elim Or.inl fun e => Or.inr (Or.inl e)) kW fun i q2 => Or.inl (q2.elim Or.inl fun q3 => Or.inr (Or.inr q3))⟩
      have l2 : w5.cell? ⟨R, 0, none⟩ = some (.slice none 0 0) := blk_cell r5
      have l3 : w5.cell? ⟨E, 0, none⟩ = some (.int .i64 0) := blk_cell x5
      have l4 : w5.frozen? ⟨R, 0, none⟩ = false := blk_frozen r5
      have l5 : w5.frozen? ⟨E, 0, none⟩ = false := blk_frozen x5
      clear q o nR nE r5 x5 k1 r6 x6 k2 x7 r7 kRE kW hopc hc5 hlt5 HS5
      gi_wp2
      exact ⟨HFIN.out.1, rfl, HFIN.out.2⟩
  case done =>
    rintro D xs W hD hxs ⟨v, Ds, c, hI⟩ hK
    have hml : (xs.map Fin.val).length = n.S := by rw [hxs]; exact List.length_range
    have hown := hI.own
    have hsk : n.S * (n.K * 228) = T := by rw [HT.out, Nat.mul_assoc]
    rw [hml, hsk] at hown
    have hTp : 0 < T := by rw [HT.out]; exact Nat.mul_pos (Nat.mul_pos HN.out.s1 HN.out.k1) (by omega)
    obtain ⟨gb, Cb, rfl, _, _⟩ := hown.form hTp
    have hCb : T ≤ Cb := by
      rcases hown.2 with ⟨h0, _⟩ | ⟨g, cap, cur, h0, _, _, h2, _⟩
      · cases h0
      · injection h0 with _ _ h0
        rw [h0]
        exact h2
    have hll := HL.out
    have q := HNUM.out
    have o := HVL.out.ord
    have nRf : ¬ Foot p d R := fun q2 => by have := (HFL.out R q2).1; omega
    have nEf : ¬ Foot p d E := fun q2 => by have := (HFL.out E q2).1; omega
    have n1 : ¬ R = E := by omega
    have n2 : ¬ E = R := by omega
    have hlow := own_low hown
    have r0 := (hI.ch.block R (blk_lt HVL.out.r) (fun q2 => q2.elim nRf (fun q3 => by omega))).trans HVL.out.r
    have x0 := (hI.ch.block E (blk_lt HVL.out.x) (fun q2 => q2.elim nEf (fun q3 => by omega))).trans HVL.out.x
    obtain ⟨W1, hW1⟩ : ∃ W1, W1 = W.setCell ⟨R, 0, none⟩ (.slice (some ⟨gb, 0, none⟩) long Cb) := ⟨_, rfl⟩
    obtain ⟨W3, hW3⟩ : ∃ W3, W3 = W1.setCell ⟨E, 0, none⟩ (.int .i64 0) := ⟨_, rfl⟩
    have kR : Ch (fun i => i = R) W W1 := by rw [hW1]; exact (Ch.refl (fun i => i = R) W).setCell (p := ⟨R, 0, none⟩) (Or.inl rfl) _
    have kE : Ch (fun i => i = E) W1 W3 := by rw [hW3]; exact (Ch.refl (fun i => i = E) W1).setCell (p := ⟨E, 0, none⟩) (Or.inl rfl) _
    have r1 : W1.heap[R]? = some (.cells #[.slice (some ⟨gb, 0, none⟩) long Cb] /-t-/24 (0, 0)) := by rw [hW1]; exact var_set r0 _
    have x1 := (kR.block E (blk_lt x0) n2).trans x0
    have x3 : W3.heap[E]? = some (.cells #[.int .i64 0] 27 (0, 0)) := by rw [hW3]; exact var_set x1 _
    have r3 := (kE.block R (blk_lt r1) n1).trans r1
    have hDR : D ≠ R := by have := blk_lt HVL.out.r; omega
    have hDE : D ≠ E := by have := blk_lt HVL.out.x; omega
    have hK1 := (kR.block D (Array.getElem?_eq_some_iff.1 hK).1 hDR).trans hK
    have hK3 : W3.heap[D]? = some (.deferred (some [])) := (kE.block D (Array.getElem?_eq_some_iff.1 hK1).1 hDE).trans hK1
    have kD : Ch (fun i => i = D) W3 (W3.putObj D (.deferred none)) := row_ch (grownBy_putObj' W3 D (.deferred none)) |>.mono fun i _ e => by injection e with e; exact e.symm
    have kall : Ch (fun i => i = R ∨ (i = E ∨ i = D)) W (W3.putObj D (.deferred none)) := ((kR.mono (T := fun i => i = R ∨ (i = E ∨ i = D)) fun _ _ e => Or.inl e).trans (kE.mono fun _ _ e => Or.inr (Or.inl e))).trans (kD.mono fun _ _ e => Or.inr (Or.inr e))
    have hown4 := ownsRow_chS hown kall fun i e q2 => by
      have h1 := hlow i e
      have h2 := blk_lt HVL.out.r
      have h3 := blk_lt HVL.out.x
      rcases q2 with q2 | q2 | q2
      · omega
      · omega
      · obtain ⟨cc, hcc⟩ := own_cells hown i e
        rw [q2, hK] at hcc
        cases hcc
    have hdev4 := hI.dev.ch kall fun i hi q2 => by
      have hi' := (HFL.out i (foot_op.1 hi)).1
      rcases q2 with q2 | q2 | q2
      · omega
      · omega
      · obtain ⟨cc, tt, hcc⟩ := hI.dev.cellsS hi
        rw [q2, hK] at hcc
        cases hcc
    have hch4 : Ch (Foot p d) w (W3.putObj D (.deferred none)) := ch_then (ch_then (HVL.out.ch.mono fun _ _ f => f.elim) hI.ch fun i q2 => q2.imp id fun q3 => by rw [q3]; omega) kall fun i q2 => Or.inr (by
      have := HWL.out
      rcases q2 with q2 | q2 | q2 <;> omega)
    have hrow : RowV (W3.putObj D (.deferred none)) (.slice (some ⟨gb, 0, none⟩) long Cb) long (rdB n.K Ds) := row_front (ownsRow_rowV hown4 (by have := HTB.out; omega) fun i _ => rdB_b _ _ i) hll
    have HFIN : Hid (RdPost base p d c0 vol no n a long w (.returned (.tuple #[.slice (some ⟨gb, 0, none⟩) long Cb, .int .i64 0])) (W3.putObj D (.deferred none))) := Lib.hid ⟨c, by have := hI.ops; rw [hml] at this; exact this, hdev4, hch4, Or.inl ⟨_, Ds, fun s hs => by
      have := hI.dat s (by rw [hml]; exact hs)
      rw [hxs, List.getD_eq_getElem?_getD, List.getElem?_range hs] at this
      exact this, rfl, hrow, fun b e => by
      injection e with e
      have h1 := hlow gb rfl
      have h2 := (World.ownsRow.lt hown4 gb rfl).2
      rw [← e]
      exact ⟨Nat.le_trans HWL.out h1, h2⟩⟩⟩
    have HR4 := Lib.hid ((kD.block R (blk_lt r3) (fun e => hDR e.symm)).trans r3)
    have HE4 := Lib.hid ((kD.block E (blk_lt x3) (fun e => hDE e.symm)).trans x3)
    have HK3 := Lib.hid hK3
    have HW3 := Lib.hid (show W3 = (W.setCell ⟨R, 0, none⟩ (.slice (some ⟨gb, 0, none⟩) long Cb)).setCell ⟨E, 0, none⟩ (.int .i64 0) by rw [hW3, hW1])
    have l1 : W.cell? ⟨Lb, 0, none⟩ = some (.slice (some ⟨gb, 0, none⟩) T Cb) := blk_cell hI.var
    have l2 : W.cell? ⟨R, 0, none⟩ = some (.slice none 0 0) := blk_cell r0
    have l3 : W.cell? ⟨E, 0, none⟩ = some (.int .i64 0) := blk_cell x0
    have l4 : W.frozen? ⟨R, 0, none⟩ = false := blk_frozen r0
    have l5 : W.frozen? ⟨E, 0, none⟩ = false := blk_frozen x0
    have l6 : (long : Int) ≤ (Cb : Int) := by omega
    clear hml hown hsk hTp hCb hll q o nRf nEf hlow r0 x0 hW1 hW3 kR kE r1 x1 x3 r3 hDR hDE hK1 hK3 kD kall hown4 hdev4 hch4 hrow hI hD hxs hK
    gi_wp2
    rw [← HW3.out]
    refine ⟨by simp, .inl ⟨_, _, rfl, run_takeDeferred HK3.out, ?_⟩⟩
    exact ⟨_, results_rd Tryz.results22 _ _ R E _ 0 rfl rfl (blk_cell HR4.out) (blk_cell HE4.out), HFIN.out⟩
  case stop =>
    rintro D cc pre W hD _ ⟨hc, hX⟩ hK
    subst hc
    have q := HNUM.out
    have o := HVL.out.ord
    obtain ⟨c, hc1, hc2⟩ := hX.dev
    have kD : Ch (fun i => i = D) W (W.putObj D (.deferred none)) := row_ch (grownBy_putObj' W D (.deferred none)) |>.mono fun i _ e => by injection e with e; exact e.symm
    have hDR : D ≠ R := by have := blk_lt HVL.out.r; omega
    have hDE : D ≠ E := by have := blk_lt HVL.out.x; omega
    have HFIN : Hid (RdPost base p d c0 vol no n a long w (.returned (.tuple #[.slice none 0 0, .int .i64 22])) (W.putObj D (.deferred none))) := Lib.hid ⟨c, hc1, hc2.ch kD (fun i hi q2 => by
      obtain ⟨c2, t2, hcc⟩ := hc2.cellsS hi
      rw [q2, hK] at hcc
      cases hcc), ch_then (ch_then (HVL.out.ch.mono fun _ _ f => f.elim) hX.ch fun i q2 => q2.imp id fun q3 => by rcases q3 with q3 | q3 | q3 <;> (rw [q3]; omega)) kD fun i q2 => Or.inr (by rw [q2]; exact Nat.le_trans HWL.out hD), Or.inr ⟨hX.few, rfl⟩⟩
    have HR4 := Lib.hid ((kD.block R (blk_lt hX.r) (fun e => hDR e.symm)).trans hX.r)
    have HE4 := Lib.hid ((kD.block E (blk_lt hX.x) (fun e => hDE e.symm)).trans hX.x)
    clear q o hc1 hc2 kD hDR hDE hX
    gi_wp2
    refine ⟨by simp, .inl ⟨_, _, rfl, run_takeDeferred hK, ?_⟩⟩
    exact ⟨_, results_rd Tryz.results22 _ _ R E _ 22 rfl rfl (blk_cell HR4.out) (blk_cell HE4.out), HFIN.out⟩
end Go.Proofs.YtlbdopcchoklhaaGreat
