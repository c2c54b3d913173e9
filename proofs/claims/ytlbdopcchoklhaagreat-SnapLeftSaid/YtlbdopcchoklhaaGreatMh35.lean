/-
  The program's Puts of what may be, walked.
-/
import Derived.Test.YtlbdopcchoklhaaGreatMh34
namespace Go.Proofs.YtlbdopcchoklhaaGreat
open Go.RowKit
set_option linter.unusedVariables false
set_option maxRecDepth 100000
set_option linter.unusedSimpArgs false
attribute [local go_sem] Oper.semAt_some wide_fn wide_depth

theorem zipS {n : Gn} (a : Nat) (p q : Tmp) (x : Fin n.S) (t : Array Value) : ((#[p, q] : Array Tmp).zip (encS n a x)).foldl (fun t (p, v) => t.setIfInBounds p v) t = (t.setIfInBounds p (.int .i64 (x.1 : Int))).setIfInBounds q (.int .i64 (frsN n a x.1 : Int)) := by
  simp [encS]
set_option maxHeartbeats 25600000 in
theorem sputs_yes (A : Option Addr) (l C : Nat) (z : Nat → Nat) (vol ep no : Int) (n : Gn) (a : Nat) (w : World) (hn : n.Ok) (ha : a ≤ 1) (hv : 0 ≤ vol ∧ vol ≤ 4294967295) (he : 0 ≤ ep ∧ ep ≤ 4294967295) (ho : 0 ≤ no ∧ no ≤ 4294967295) (hl : l ≤ n.S * n.K * 228) (hb : RowV w (.slice A l C) l z) :
    Calls Tryz.prog 13 #[.int .i64 vol, .agg (geC n.ge), .int .i64 (a : Int), .int .i64 ep, .int .i64 no, .slice A l C] w (PtsPost (n.S * n.q) (snpP vol ep no n a (padZ l z)) w) := by
  obtain ⟨w2, H, w6, Bv, Be, Bn, R, E, hR, ⟨e1, e2, e3, e4, e5⟩, hw6, hV⟩ := puV w vol ep no n.ge
  have HR := Lib.hid hR
  have HV := Lib.hid hV
  have HQ := Lib.hid (And.intro e1 (And.intro e2 (And.intro e3 (And.intro e4 (And.intro e5 hw6)))))
  have HM := Lib.hid (fun w => snmay_any vol n.ge (a : Int) 0 ep no w)
  rw [pts_may hn ha hv he ho] at HM
  have HRM := Lib.hid (fun w => room_any n.ge w)
  rw [room_ge hn] at HRM
  have HCU := Lib.hid (fun w' (k : Ch (fun _ => False) w w') => cut_any A l C z n w' hn hl (hb.gr k))
  obtain ⟨Z, hZ⟩ : ∃ Z, Z = padZ l z := ⟨_, rfl⟩
  have HZB : Hid (∀ i, Z i < 256) := Lib.hid (fun i => by rw [hZ]; exact padZ_b hb.bytes i)
  rw [← hZ] at HCU ⊢
  obtain ⟨ND, hND⟩ : ∃ ND, ND = n.S * n.K := ⟨_, rfl⟩
  have hND0 : 0 < ND := by rw [hND]; exact Nat.mul_pos hn.s1 hn.k1
  rw [← hND] at HCU
  have HND := Lib.hid (And.intro hND hND0)
  obtain ⟨f, hf⟩ : ∃ f, f = snpP vol ep no n a Z := ⟨_, rfl⟩
  rw [← hf]
  have HFF := Lib.hid hf
  have HN := Lib.hid hn
  have HA := Lib.hid ha
  have HARG := Lib.hid (And.intro hv (And.intro he ho))
  obtain ⟨T, hT⟩ : ∃ T, T = n.S * n.K * 228 := ⟨_, rfl⟩
  rw [← hT] at HRM hl
  have HT := Lib.hid hT
  have l0 : (0 : Int) ≤ (l : Int) := Int.natCast_nonneg _
  have t1 : ¬ (T : Int) < (l : Int) := by omega
  clear hR hV e1 e2 e3 e4 e5 hw6 hn ha hv he ho hl hT hb hZ hf hND hND0
  refine (callsIn_wide (n := 9)).1 ?_
  refine callsIn_of_wp_marks Tryz.func13 rfl trivial ?_ rfl
  simp only [Tryz.ntmps13, List.size_toArray, List.length_cons, List.length_nil, Nat.reduceAdd, Nat.reduceSub, Array.replicate_succ, Array.replicate_zero, List.push_toArray, List.append_toArray, List.nil_append, List.cons_append]
  gi_upto_region 0 with fail
  refine wpIn_wide.2 ?_
  go_wp2_with (first | ((with_reducible refine wpList_isOp (.box 23 (.tmp 1)) rfl ?_); refine wpList_boxing _ w2 rfl 23 (.tmp 1) rfl (geC n.ge) H rfl (by exact HR.out.sz) (by exact HR.out.al) ?_) | fail)
  obtain ⟨e1, e2, e3, e4, e5, hw6⟩ := HQ.out
  rw [← hw6, ← e5, ← e4, ← e3, ← e2, ← e1]
  clear e1 e2 e3 e4 e5 hw6
  have c1 : w6.cell? ⟨Bv, 0, none⟩ = some (.int .i64 vol) := blk_cell HV.out.v
  have c2 : w6.cell? ⟨H, 0, none⟩ = some (.int .i64 (n.W : Int)) := blk_cell HV.out.h
  have c3 : w6.cell? ⟨H, 1, none⟩ = some (.int .i64 (n.S : Int)) := blk_cell HV.out.h
  have c4 : w6.cell? ⟨H, 2, none⟩ = some (.int .i64 (n.K : Int)) := blk_cell HV.out.h
  have c5 : w6.cell? ⟨H, 3, none⟩ = some (.int .i64 (n.M : Int)) := blk_cell HV.out.h
  have c6 : w6.cell? ⟨Be, 0, none⟩ = some (.int .i64 ep) := blk_cell HV.out.e
  have c7 : w6.cell? ⟨Bn, 0, none⟩ = some (.int .i64 no) := blk_cell HV.out.n
  go_wp2
  gi_upto_region 1 with fail
  refine wpIn_wide.2 ?_
  go_wp2_with fail
  refine (HM.out _).mono ?_
  rintro e w7 ⟨rfl, hc7⟩
  have HV7 := Lib.hid (HV.out.gr hc7)
  clear hc7 c1 c2 c3 c4 c5 c6 c7
  have c1 : w7.cell? ⟨Bv, 0, none⟩ = some (.int .i64 vol) := blk_cell HV7.out.v
  have c2 : w7.cell? ⟨H, 0, none⟩ = some (.int .i64 (n.W : Int)) := blk_cell HV7.out.h
  have c3 : w7.cell? ⟨H, 1, none⟩ = some (.int .i64 (n.S : Int)) := blk_cell HV7.out.h
  have c4 : w7.cell? ⟨H, 2, none⟩ = some (.int .i64 (n.K : Int)) := blk_cell HV7.out.h
  have c5 : w7.cell? ⟨H, 3, none⟩ = some (.int .i64 (n.M : Int)) := blk_cell HV7.out.h
  have c6 : w7.cell? ⟨Be, 0, none⟩ = some (.int .i64 ep) := blk_cell HV7.out.e
  have c7 : w7.cell? ⟨Bn, 0, none⟩ = some (.int .i64 no) := blk_cell HV7.out.n
  go_wp2
  gi_upto_region 3 with fail
  refine wpIn_wide.2 ?_
  go_wp2_with fail
  refine (HRM.out _).mono ?_
  rintro e w8 ⟨rfl, hc8⟩
  have HV8 := Lib.hid (HV7.out.gr hc8)
  clear hc8 c1 c2 c3 c4 c5 c6 c7
  have c1 : w8.cell? ⟨Bv, 0, none⟩ = some (.int .i64 vol) := blk_cell HV8.out.v
  have c2 : w8.cell? ⟨H, 0, none⟩ = some (.int .i64 (n.W : Int)) := blk_cell HV8.out.h
  have c3 : w8.cell? ⟨H, 1, none⟩ = some (.int .i64 (n.S : Int)) := blk_cell HV8.out.h
  have c4 : w8.cell? ⟨H, 2, none⟩ = some (.int .i64 (n.K : Int)) := blk_cell HV8.out.h
  have c5 : w8.cell? ⟨H, 3, none⟩ = some (.int .i64 (n.M : Int)) := blk_cell HV8.out.h
  have c6 : w8.cell? ⟨Be, 0, none⟩ = some (.int .i64 ep) := blk_cell HV8.out.e
  have c7 : w8.cell? ⟨Bn, 0, none⟩ = some (.int .i64 no) := blk_cell HV8.out.n
  go_wp2
  gi_upto_region 5 with fail
  refine wpIn_wide.2 ?_
  go_wp2_with fail
  refine (HCU.out _ HV8.out.ch).mono ?_
  rintro e w9 ⟨vd, G, rfl, hd1, hd2, hc9⟩
  obtain ⟨gd, Cd, rfl, _, _⟩ := hd1.form HND.out.2
  have HCD : Hid (ND ≤ Cd) := Lib.hid (by
    rcases hd1.2 with ⟨h0, _⟩ | ⟨g, cap, cur, h0, _, _, h2, _⟩
    · cases h0
    · injection h0 with _ _ h0
      rw [h0]
      exact h2)
  have HV9 := Lib.hid (HV8.out.gr hc9)
  have HD9 := Lib.hid (And.intro hd1 hd2)
  clear hc9 hd1 hd2 c1 c2 c3 c4 c5 c6 c7
  go_wp2
  gi_upto_region 7 with fail
  obtain ⟨wa, hwa⟩ : ∃ wa, wa = (w9.alloc (.cells #[.slice (some ⟨gd, 0, none⟩) ND Cd] /-t-/37)).alloc (.cells #[.slice none 0 0] 30) := ⟨_, rfl⟩
  obtain ⟨Bd, hBd⟩ : ∃ b, b = w9.heap.size := ⟨_, rfl⟩
  obtain ⟨Lb, hLb⟩ : ∃ b, b = w9.heap.size + 1 := ⟨_, rfl⟩
  rw [← hwa, ← hLb, ← hBd]
  obtain ⟨wb, hwb⟩ : ∃ wb, wb = w9.alloc (.cells #[.slice (some ⟨gd, 0, none⟩) ND Cd] /-t-/37) := ⟨_, rfl⟩
  rw [← hwb] at hwa
  have sb : wb.heap.size = w9.heap.size + 1 := by rw [hwb]; exact Array.size_push _
  have kb : Ch (fun _ => False) w9 wb := by rw [hwb]; exact (Ch.refl _ w9).alloc _ _
  have ka : Ch (fun _ => False) wb wa := by rw [hwa]; exact (Ch.refl _ wb).alloc _ _
  have xb : wb.heap[Bd]? = some (.cells #[.slice (some ⟨gd, 0, none⟩) ND Cd] /-t-/37 (0, 0)) := by rw [hwb, hBd]; exact heap_alloc_new _ _
  have HLBA : Hid (wa.heap[Lb]? = some (.cells #[.slice none 0 0] 30 (0, 0))) := Lib.hid (by rw [hwa, hLb, ← sb]; exact heap_alloc_new _ _)
  have HBDA := Lib.hid ((ka.block _ (blk_lt xb) (fun f => f)).trans xb)
  have HVA := Lib.hid (HV9.out.gr (kb.trans ka))
  have HDA := Lib.hid ((datI_of HD9.out.1 HD9.out.2).ch (kb.trans ka) (fun f => f) (fun f => f))
  have HDN : Hid (gd < w9.heap.size ∧ G < w9.heap.size) := Lib.hid ⟨(World.ownsRow.lt HD9.out.1 gd rfl).2, World.block_lt_of_cell? _ _ ((datI_of HD9.out.1 HD9.out.2).byt 0 (by have := HND.out.2; omega)).1⟩
  have HNUM := Lib.hid (show Bv < w9.heap.size ∧ H < w9.heap.size ∧ Be < w9.heap.size ∧ Bn < w9.heap.size ∧ R < w9.heap.size ∧ E < w9.heap.size ∧ Bd = w9.heap.size ∧ Lb = w9.heap.size + 1 from ⟨blk_lt HV9.out.v, blk_lt HV9.out.h, blk_lt HV9.out.e, blk_lt HV9.out.n, blk_lt HV9.out.r, blk_lt HV9.out.x, hBd, hLb⟩)
  have HW9 := Lib.hid (HV9.out.ch.size)
  clear hwa hwb hBd hLb sb kb ka xb HV9 HD9
  have c2 : wa.cell? ⟨H, 0, none⟩ = some (.int .i64 (n.W : Int)) := blk_cell HVA.out.h
  have c3 : wa.cell? ⟨H, 1, none⟩ = some (.int .i64 (n.S : Int)) := blk_cell HVA.out.h
  have c4 : wa.cell? ⟨H, 2, none⟩ = some (.int .i64 (n.K : Int)) := blk_cell HVA.out.h
  have c5 : wa.cell? ⟨H, 3, none⟩ = some (.int .i64 (n.M : Int)) := blk_cell HVA.out.h
  refine wpIn_wide.2 ?_
  go_wp2_with fail
  refine (stripes_any n.ge (a : Int) wa).mono ?_
  rintro e wL ⟨Hg, Ha, rfl, hg1, ha1, hg2, ha2, hcL⟩
  have HVL := Lib.hid (HVA.out.gr hcL)
  have HDL := Lib.hid (HDA.out.ch hcL (fun f => f) (fun f => f))
  have HBL := Lib.hid ((hcL.block _ (blk_lt HBDA.out) (fun f => f)).trans HBDA.out)
  have HLL := Lib.hid ((hcL.block _ (blk_lt HLBA.out) (fun f => f)).trans HLBA.out)
  have HGL := Lib.hid (And.intro hg1 ha1)
  have HNL := Lib.hid (show Lb < wL.heap.size ∧ (Hg < wL.heap.size ∧ Hg ≠ Lb) ∧ (Ha < wL.heap.size ∧ Ha ≠ Lb) by
    have h1 := blk_lt HLBA.out
    have h2 := hcL.size
    exact ⟨by omega, ⟨blk_lt hg1, by omega⟩, ⟨blk_lt ha1, by omega⟩⟩)
  clear hcL hg1 ha1 hg2 ha2 c2 c3 c4 c5 HVA HDA HBDA HLBA
  have HVC : Hid (∀ W, Ch (fun i => i = Lb) wL W → (W.cell? ⟨H, 0, none⟩ = some (.int .i64 (n.W : Int)) ∧ W.cell? ⟨H, 1, none⟩ = some (.int .i64 (n.S : Int)) ∧ W.cell? ⟨H, 2, none⟩ = some (.int .i64 (n.K : Int)) ∧ W.cell? ⟨H, 3, none⟩ = some (.int .i64 (n.M : Int)) ∧ W.cell? ⟨Bd, 0, none⟩ = some (.slice (some ⟨gd, 0, none⟩) ND Cd)) ∧ W.cell? ⟨Bv, 0, none⟩ = some (.int .i64 vol) ∧ W.cell? ⟨Be, 0, none⟩ = some (.int .i64 ep) ∧ W.cell? ⟨Bn, 0, none⟩ = some (.int .i64 no)) := Lib.hid fun W k => by
    have q := HNUM.out
    have nH : ¬ H = Lb := by omega
    have nV : ¬ Bv = Lb := by omega
    have nE : ¬ Be = Lb := by omega
    have nN : ¬ Bn = Lb := by omega
    have nD : ¬ Bd = Lb := by omega
    exact ⟨⟨k.cell (blk_cell HVL.out.h) nH, k.cell (blk_cell HVL.out.h) nH, k.cell (blk_cell HVL.out.h) nH, k.cell (blk_cell HVL.out.h) nH, k.cell (blk_cell HBL.out) nD⟩, k.cell (blk_cell HVL.out.v) nV, k.cell (blk_cell HVL.out.e) nE, k.cell (blk_cell HVL.out.n) nN⟩
  have HI0 : Hid (PtI w wL Lb (stpP vol ep no n a Z []) (0 * n.q) (.slice none 0 0) wL) := Lib.hid ⟨HLL.out, ⟨fun _ => undef, (by rw [Nat.zero_mul]; exact ⟨World.ownsRow_nil _ _ _ _, fun c hc => absurd hc (Nat.not_lt_zero c), HVL.out.ch⟩)⟩, (fun b e => by cases e), Ch.refl _ _⟩
  have HWL := Lib.hid HVL.out.ch.size
  go_wp2
  gi_wp2
  refine wpIn_rangeFunc_ownG (ps := #[42, 43]) rfl (by omega) (gf := 63) (lb := #[.pointer (some ⟨Hg, 0, none⟩), .pointer (some ⟨Ha, 0, none⟩)]) rfl trivial (enters_of Tryz.func63 (by kernel_rfl) rfl)
    (encs := encS n a) (Kp := KpStr Hg Ha) (S := fun ys => ys.map Fin.val = List.range n.S) (Sp := fun pre => ∃ k, k ≤ n.S ∧ pre.map Fin.val = List.range k) (N := n.S) (w0 := wL)
    (fun l J Jx W hW hJ hJx hY h0 => stripes1_in 8 (by omega) l Hg Ha n a HN.out HA.out J Jx W hJ hY ((hW.block Hg (blk_lt HGL.out.1)).trans HGL.out.1) ((hW.block Ha (blk_lt HGL.out.2)).trans HGL.out.2) h0)
    (fun h k => h.trans k) (fun W l o o' _ ho hc _ => KpX.put ho hc) (Below.refl _ _) (fun _ => rfl)
    (fun l W => ∃ v, PtI w wL Lb (stpP vol ep no n a Z (l.map Fin.val)) (l.length * n.q) v W) (fun _ _ _ => False) (fun l W W' row ⟨v, h⟩ hg hr => ⟨v, h.nc hg hr HWL.out⟩) (fun _ _ _ _ _ hs _ _ => hs)
    ⟨_, HI0.out⟩
    (fun y => { tmps := #[.int .i64 vol, .agg (geC n.ge), .int .i64 (a : Int), .int .i64 ep, .int .i64 no, .slice A l C, .pointer (some ⟨Bv, 0, none⟩), .pointer (some ⟨H, 0, none⟩), undef, .pointer (some ⟨Be, 0, none⟩), .pointer (some ⟨Bn, 0, none⟩), undef, .pointer (some ⟨R, 0, none⟩), .pointer (some ⟨E, 0, none⟩), .pointer (some ⟨Bd, 0, none⟩), .pointer (some ⟨Lb, 0, none⟩), .int .i64 (y.1 : Int), .int .i64 (frsN n a y.1 : Int), undef, undef, undef, undef, undef, undef, .int .i64 vol, (.agg #[.int .i64 (n.W : Int), .int .i64 (n.S : Int), .int .i64 (n.K : Int), .int .i64 (n.M : Int)]), .int .i64 (a : Int), .int .i64 ep, .int .i64 no, .bool true, .bool false, .slice A l C, .int .i64 (l : Int), (.agg #[.int .i64 (n.W : Int), .int .i64 (n.S : Int), .int .i64 (n.K : Int), .int .i64 (n.M : Int)]), .int .i64 (T : Int), .bool false, (.agg #[.int .i64 (n.W : Int), .int .i64 (n.S : Int), .int .i64 (n.K : Int), .int .i64 (n.M : Int)]), .slice A l C, .slice (some ⟨gd, 0, none⟩) ND Cd, (.agg #[.int .i64 (n.W : Int), .int .i64 (n.S : Int), .int .i64 (n.K : Int), .int .i64 (n.M : Int)]), .int .i64 (a : Int), .func (.func 63) #[] #[.pointer (some ⟨Hg, 0, none⟩), .pointer (some ⟨Ha, 0, none⟩)], .int .i64 (y.1 : Int), .int .i64 (frsN n a y.1 : Int), undef, undef, undef, undef, undef, undef, undef, undef, undef, undef, undef, undef, undef, undef, undef, undef, undef, undef, undef, undef, undef, undef, undef, undef, undef, undef, undef, undef, undef, undef, undef, undef, undef, undef, undef, undef, undef, undef, undef, undef, undef, undef, undef, undef, undef, undef, undef, undef, undef, undef, undef], defers := [] }) ?assign ?body ?done ?stop
  case assign =>
    intro l y W K hK
    rw [zipS]
    simp only [List.setIfInBounds_toArray, List.set_cons_zero, List.set_cons_succ]
    gi_wp2
    exact hK
  case body =>
    rintro l pre y W ⟨v, hI0⟩ hlen
    obtain ⟨s, hsy⟩ : ∃ s, s = y.1 := ⟨_, rfl⟩
    have hs : s < n.S := by rw [hsy]; exact y.2
    have hml : (pre.map Fin.val).length = pre.length := List.length_map _
    obtain ⟨g, hgd⟩ : ∃ g, g = stpP vol ep no n a Z (pre.map Fin.val ++ [s]) := ⟨_, rfl⟩
    have hI : PtI w wL Lb g (pre.length * n.q) v W := hI0.fcongr fun c hc => by rw [hgd]; exact stp_pre (by rw [hml]; exact hc)
    have HGN : Hid (∀ i, i < n.q → g (pre.length * n.q + i) = ⟨(frsN n a s : Int) + (i : Int), 256, sectZ (shrK vol ep no n a Z undef s i)⟩) := Lib.hid fun i hi => by rw [hgd, ← hml]; exact stp_new hi
    have HGF : Hid (stpP vol ep no n a Z ((pre ++ [y]).map Fin.val) = g ∧ (pre ++ [y]).length * n.q = (pre.length + 1) * n.q) := Lib.hid ⟨by rw [List.map_append, hgd, hsy]; rfl, by rw [List.length_append]; rfl⟩
    obtain ⟨P, hP⟩ : ∃ P, P = pre.length := ⟨_, rfl⟩
    rw [← hP] at hI HGN HGF
    have HPL : Hid (P < n.S) := Lib.hid (by rw [hP]; exact hlen)
    have HIW := Lib.hid hI
    have HS0 := Lib.hid hs
    rw [← hsy]
    obtain ⟨at0, hat⟩ : ∃ at0, at0 = frsN n a s := ⟨_, rfl⟩
    have hfl := frsN_lt HN.out HA.out hs (i := 0) (by have := HN.out.q1; omega)
    have htt := HN.out.tot2
    rw [← hat] at HGN hfl ⊢
    have HAT := Lib.hid hat
    have ha0 : (0 : Int) ≤ (at0 : Int) := Int.natCast_nonneg _
    have ha1 : (at0 : Int) ≤ 2564 := by omega
    have hq0 : (0 : Int) ≤ (n.q : Int) := Int.natCast_nonneg _
    have hq1 : (n.q : Int) ≤ 24 := by have := HN.out.q2; omega
    clear hI0 hsy hml hgd hP hlen hI hat hfl htt
    have s0 : (0 : Int) ≤ (s : Int) := Int.natCast_nonneg _
    have k0 : (0 : Int) ≤ (n.K : Int) := Int.natCast_nonneg _
    have hs32 : s < 32 := by have := HN.out.s2; omega
    have hK16 := HN.out.k2
    have hK1 := HN.out.k1
    obtain ⟨D1, hD1⟩ : ∃ D1, D1 = s * n.K := ⟨_, rfl⟩
    obtain ⟨s1, hs1⟩ : ∃ s1, s1 = s + 1 := ⟨_, rfl⟩
    obtain ⟨D2, hD2⟩ : ∃ D2, D2 = s1 * n.K := ⟨_, rfl⟩
    have hD12 : D2 = D1 + n.K := by rw [hD2, hs1, hD1, Nat.succ_mul]
    have hD1b : D1 ≤ 32 * 16 := by rw [hD1]; exact Nat.mul_le_mul (by omega) hK16
    have hD2N : D2 ≤ ND := by rw [hD2, HND.out.1]; exact Nat.mul_le_mul_right _ (by omega)
    have hCd : ND ≤ Cd := HCD.out
    have M1 : Hid (IntKind.i64.wrap ((s : Int) * (n.K : Int)) = (D1 : Int)) := Lib.hid (by rw [← Int.natCast_mul, ← hD1, wrapI_in (by omega) (by omega)])
    have M2 : Hid (IntKind.i64.wrap ((s : Int) + 1) = (s1 : Int)) := Lib.hid (by rw [wrapI_in (by omega) (by omega)]; omega)
    have M3 : Hid (IntKind.i64.wrap ((s1 : Int) * (n.K : Int)) = (D2 : Int)) := Lib.hid (by rw [← Int.natCast_mul, ← hD2, wrapI_in (by omega) (by omega)])
    have M4 : Hid (D2 - D1 = n.K) := Lib.hid (by omega)
    have d0 : (0 : Int) ≤ (D1 : Int) := Int.natCast_nonneg _
    have d1 : (D1 : Int) ≤ (D2 : Int) := by omega
    have d2 : (D2 : Int) ≤ (Cd : Int) := by omega
    have d3 : ¬ Cd = D1 := by omega
    have HDP : Hid (∀ W', Ch (fun i => i = Lb) wL W' → MatV W' (.slice (some ⟨gd, D1, none⟩) n.K (Cd - D1)) n.K (fun _ => 228) (datZ n.K Z s) ∧ RowsAt W' gd D1 n.K (fun r => chV G (D1 + r)) ∧ ∀ r, r < n.K → RowV W' (chV G (D1 + r)) 228 (datZ n.K Z s r)) := Lib.hid fun W' k => by
      have q := HNUM.out
      have q2 := HDN.out
      have nG : ¬ gd = Lb := by omega
      have nG2 : ¬ G = Lb := by omega
      have hdi := HDL.out.ch k nG nG2
      obtain ⟨p1, p2⟩ := hdi.part hD1 (by omega) (by have := sk_le HN.out; have := HND.out.1; omega) (show n.K ≤ Cd - D1 by omega)
      refine ⟨p1, p2, fun r hr => ?_⟩
      have hrw := hdi.row (r := D1 + r) (by omega)
      rw [hD1] at hrw ⊢
      exact hrw
    clear hs hs32 hK16 hK1 hD1 hs1 hD2 hD12 hD1b hD2N hCd
    obtain ⟨wd, hwd⟩ : ∃ wd, wd = W.drew := ⟨_, rfl⟩
    have HDR0 := Lib.hid (show Ch (fun _ => False) W wd by rw [hwd]; exact (Ch.refl _ W).drew)
    have HDR := Lib.hid (ch_then HIW.out.ch HDR0.out fun _ f => f.elim)
    have HEN : Hid (∀ W', Ch (fun i => i = Lb) wL W' → Calls Tryz.prog 36 #[.agg (geC n.ge), .slice (some ⟨gd, D1, none⟩) n.K (Cd - D1)] W' (EncPost n.q n.K n.M (fun r => chV G (D1 + r)) (mulZ n.K (cauZ n.K) (datZ n.K Z s)) W')) := Lib.hid fun W' k => senc_any _ _ _ _ _ n W' HN.out (HDP.out W' k).1 (HDP.out W' k).2.1
    have HSG : Hid (∀ W', Ch (fun i => i = Lb) wL W' → W'.cell? ⟨H, 0, none⟩ = some (.int .i64 (n.W : Int)) ∧ W'.cell? ⟨H, 1, none⟩ = some (.int .i64 (n.S : Int)) ∧ W'.cell? ⟨H, 2, none⟩ = some (.int .i64 (n.K : Int)) ∧ W'.cell? ⟨H, 3, none⟩ = some (.int .i64 (n.M : Int)) ∧ W'.cell? ⟨Bd, 0, none⟩ = some (.slice (some ⟨gd, 0, none⟩) ND Cd)) := Lib.hid fun W' k => (HVC.out W' k).1
    gi_upto_region 10 with fail
    refine wpIn_round_held (fun W' => W'.cell? ⟨H, 0, none⟩ = some (.int .i64 (n.W : Int)) ∧ W'.cell? ⟨H, 1, none⟩ = some (.int .i64 (n.S : Int)) ∧ W'.cell? ⟨H, 2, none⟩ = some (.int .i64 (n.K : Int)) ∧ W'.cell? ⟨H, 3, none⟩ = some (.int .i64 (n.M : Int)) ∧ W'.cell? ⟨Bd, 0, none⟩ = some (.slice (some ⟨gd, 0, none⟩) ND Cd)) (by kernel_rfl) (by kernel_rfl) (fun ⟨_, _, h⟩ => h) ?_
    change wpAnyH _ _ _ _ _ _ _ _ (World.drew _)
    rw [← hwd]
    clear hwd
    have HS := HSG.out _ HDR.out
    refine wpAnyH_take (i := 0) (oi := ⟨some 45, .load 23 (.tmp 7), _, _, _, none⟩) (v := .agg (geC n.ge)) rfl (by kernel_rfl) (by kernel_rfl) (by kernel_rfl) (fun _ _ _ h => h) (Or.inl ⟨by rfl, fun w' hS => ?_⟩) HS ?_
    · obtain ⟨z0, z1, z2, z3, z4⟩ := hS
      go_simp
      rfl
    simp only [Act.put, List.setIfInBounds_toArray, List.set_cons_zero, List.set_cons_succ]
    refine wpAnyH_take (i := 1) (oi := ⟨some 46, .load /-t-/37 (.tmp 14), _, _, _, none⟩) (v := .slice (some ⟨gd, 0, none⟩) ND Cd) rfl (by kernel_rfl) (by kernel_rfl) (by kernel_rfl) (fun _ _ _ h => h) (Or.inl ⟨by rfl, fun w' hS => ?_⟩) HS ?_
    · obtain ⟨z0, z1, z2, z3, z4⟩ := hS
      go_simp
    simp only [Act.put, List.setIfInBounds_toArray, List.set_cons_zero, List.set_cons_succ]
    refine wpAnyH_take (i := 2) (oi := ⟨some 47, .move (.tmp 16), _, _, _, none⟩) (v := .int .i64 (s : Int)) rfl (by kernel_rfl) (by kernel_rfl) (by kernel_rfl) (fun _ _ _ h => h) (Or.inl ⟨by rfl, fun w' hS => ?_⟩) HS ?_
    · clear hS; go_simp
    simp only [Act.put, List.setIfInBounds_toArray, List.set_cons_zero, List.set_cons_succ]
    refine wpAnyH_take (i := 3) (oi := ⟨some 48, .fieldAddr 23 (.tmp 7) 2, _, _, _, none⟩) (v := .pointer (some ⟨H, 2, none⟩)) rfl (by kernel_rfl) (by kernel_rfl) (by kernel_rfl) (fun _ _ _ h => h) (Or.inl ⟨by rfl, fun w' hS => ?_⟩) HS ?_
    · clear hS; go_simp
    simp only [Act.put, List.setIfInBounds_toArray, List.set_cons_zero, List.set_cons_succ]
    refine wpAnyH_take (i := 4) (oi := ⟨some 49, .load /-t-/3 (.tmp 48), _, _, _, none⟩) (v := .int .i64 (n.K : Int)) rfl (by kernel_rfl) (by kernel_rfl) (by kernel_rfl) (fun _ _ _ h => h) (Or.inl ⟨by rfl, fun w' hS => ?_⟩) HS ?_
    · obtain ⟨z0, z1, z2, z3, z4⟩ := hS
      go_simp
    simp only [Act.put, List.setIfInBounds_toArray, List.set_cons_zero, List.set_cons_succ]
    refine wpAnyH_take (i := 5) (oi := ⟨some 50, .binOp .mul /-t-/3 (.tmp 47) (.tmp 49) /-t-/3, _, _, _, none⟩) (v := .int .i64 (D1 : Int)) rfl (by kernel_rfl) (by kernel_rfl) (by kernel_rfl) (fun _ _ _ h => h) (Or.inl ⟨by rfl, fun w' hS => ?_⟩) HS ?_
    · clear hS; go_simp; rw [M1.out]
    simp only [Act.put, List.setIfInBounds_toArray, List.set_cons_zero, List.set_cons_succ]
    refine wpAnyH_take (i := 6) (oi := ⟨some 51, .move (.tmp 16), _, _, _, none⟩) (v := .int .i64 (s : Int)) rfl (by kernel_rfl) (by kernel_rfl) (by kernel_rfl) (fun _ _ _ h => h) (Or.inl ⟨by rfl, fun w' hS => ?_⟩) HS ?_
    · clear hS; go_simp
    simp only [Act.put, List.setIfInBounds_toArray, List.set_cons_zero, List.set_cons_succ]
    refine wpAnyH_take (i := 7) (oi := ⟨some 52, .binOp .add /-t-/3 (.tmp 51) (.const (.int .i64 1)) /-t-/3, _, _, _, none⟩) (v := .int .i64 (s1 : Int)) rfl (by kernel_rfl) (by kernel_rfl) (by kernel_rfl) (fun _ _ _ h => h) (Or.inl ⟨by rfl, fun w' hS => ?_⟩) HS ?_
    · clear hS; go_simp; rw [M2.out]
    simp only [Act.put, List.setIfInBounds_toArray, List.set_cons_zero, List.set_cons_succ]
    refine wpAnyH_take (i := 8) (oi := ⟨some 53, .fieldAddr 23 (.tmp 7) 2, _, _, _, none⟩) (v := .pointer (some ⟨H, 2, none⟩)) rfl (by kernel_rfl) (by kernel_rfl) (by kernel_rfl) (fun _ _ _ h => h) (Or.inl ⟨by rfl, fun w' hS => ?_⟩) HS ?_
    · clear hS; go_simp
    simp only [Act.put, List.setIfInBounds_toArray, List.set_cons_zero, List.set_cons_succ]
    refine wpAnyH_take (i := 9) (oi := ⟨some 54, .load /-t-/3 (.tmp 53), _, _, _, none⟩) (v := .int .i64 (n.K : Int)) rfl (by kernel_rfl) (by kernel_rfl) (by kernel_rfl) (fun _ _ _ h => h) (Or.inl ⟨by rfl, fun w' hS => ?_⟩) HS ?_
    · obtain ⟨z0, z1, z2, z3, z4⟩ := hS
      go_simp
    simp only [Act.put, List.setIfInBounds_toArray, List.set_cons_zero, List.set_cons_succ]
    refine wpAnyH_take (i := 10) (oi := ⟨some 55, .binOp .mul /-t-/3 (.tmp 52) (.tmp 54) /-t-/3, _, _, _, none⟩) (v := .int .i64 (D2 : Int)) rfl (by kernel_rfl) (by kernel_rfl) (by kernel_rfl) (fun _ _ _ h => h) (Or.inl ⟨by rfl, fun w' hS => ?_⟩) HS ?_
    · clear hS; go_simp; rw [M3.out]
    simp only [Act.put, List.setIfInBounds_toArray, List.set_cons_zero, List.set_cons_succ]
    refine wpAnyH_take (i := 11) (oi := ⟨some 56, .slice /-t-/37 (.tmp 46) (some (.tmp 50)) (some (.tmp 55)) none, _, _, _, none⟩) (v := .slice (some ⟨gd, D1, none⟩) n.K (Cd - D1)) rfl (by kernel_rfl) (by kernel_rfl) (by kernel_rfl) (fun _ _ _ h => h) (Or.inl ⟨by rfl, fun w' hS => ?_⟩) HS ?_
    · clear hS; go_simp; exact M4.out
    simp only [Act.put, List.setIfInBounds_toArray, List.set_cons_zero, List.set_cons_succ]
    refine wpAnyH_ready (rs := [12]) (by kernel_rfl) (by simp) ?_
    refine AllReadyH.cons rfl (fun K hK => ?_) AllReadyH.nil
    go_simp
    refine (HEN.out _ HDR.out).mono ?_
    rintro e w4 ⟨g4, C4, Gm, rfl, h4a, hc4, h4c⟩
    dsimp only
    have HS4 := HSG.out _ (ch_then HDR.out hc4 fun _ f => f.elim)
    refine hK.out _ _ HS4 (fun _ => ?_)
    clear hK K
    try simp only [Act.put, List.setIfInBounds_toArray, List.set_cons_zero, List.set_cons_succ]
    refine wpAnyH_take (i := 13) (oi := ⟨some 44, .move (.tmp 57), _, _, _, none⟩) (v := .tuple #[.slice (some ⟨g4, 0, none⟩) n.q C4, .int .i64 0]) rfl (by kernel_rfl) (by kernel_rfl) (by kernel_rfl) (fun _ _ _ h => h) (Or.inl ⟨by rfl, fun w' hS => ?_⟩) HS4 ?_
    · clear hS; go_simp
    simp only [Act.put, List.setIfInBounds_toArray, List.set_cons_zero, List.set_cons_succ]
    refine wpAnyH_take (i := 14) (oi := ⟨some 58, .extract (.tmp 44) 0, _, _, _, none⟩) (v := .slice (some ⟨g4, 0, none⟩) n.q C4) rfl (by kernel_rfl) (by kernel_rfl) (by kernel_rfl) (fun _ _ _ h => h) (Or.inl ⟨by rfl, fun w' hS => ?_⟩) HS4 ?_
    · clear hS; go_simp
    simp only [Act.put, List.setIfInBounds_toArray, List.set_cons_zero, List.set_cons_succ]
    refine wpAnyH_take (i := 15) (oi := ⟨some 59, .extract (.tmp 44) 1, _, _, _, none⟩) (v := .int .i64 0) rfl (by kernel_rfl) (by kernel_rfl) (by kernel_rfl) (fun _ _ _ h => h) (Or.inl ⟨by rfl, fun w' hS => ?_⟩) HS4 ?_
    · clear hS; go_simp
    simp only [Act.put, List.setIfInBounds_toArray, List.set_cons_zero, List.set_cons_succ]
    refine wpAnyH_take (i := 16) (oi := ⟨some 18, .assign (.tmp 58), _, _, _, none⟩) (v := .slice (some ⟨g4, 0, none⟩) n.q C4) rfl (by kernel_rfl) (by kernel_rfl) (by kernel_rfl) (fun _ _ _ h => h) (Or.inl ⟨by rfl, fun w' hS => ?_⟩) HS4 ?_
    · clear hS; go_simp
    simp only [Act.put, List.setIfInBounds_toArray, List.set_cons_zero, List.set_cons_succ]
    refine wpAnyH_take (i := 17) (oi := ⟨some 19, .assign (.tmp 59), _, _, _, none⟩) (v := .int .i64 0) rfl (by kernel_rfl) (by kernel_rfl) (by kernel_rfl) (fun _ _ _ h => h) (Or.inl ⟨by rfl, fun w' hS => ?_⟩) HS4 ?_
    · clear hS; go_simp
    simp only [Act.put, List.setIfInBounds_toArray, List.set_cons_zero, List.set_cons_succ]
    refine wpAnyH_done (by kernel_rfl) ?_ _
    have HC4 := Lib.hid hc4
    have HCW := Lib.hid (ch_then HDR.out hc4 fun _ f => f.elim)
    obtain ⟨X, hX⟩ : ∃ X : Nat → Prop, X = fun b => b = G ∨ (wd.heap.size ≤ b ∧ b < w4.heap.size) := ⟨_, rfl⟩
    have hmx := shares_mat (n.q.add_zero ▸ rfl : n.q = n.K + n.M) (datZ_b HZB.out s) h4a (fun r hr => (HDP.out w4 HCW.out).2.2 r hr) h4c
    rw [← hX] at hmx
    have HXL : Hid (∀ b, X b → b ≠ Lb ∧ b < w4.heap.size) := Lib.hid fun b hb => by
      rw [hX] at hb
      have q := HNUM.out
      have q1 := HDN.out
      have q2 := HNL.out.1
      have q3 := HDR.out.size
      have q4 := hc4.size
      rcases hb with rfl | hb
      · exact ⟨by omega, by omega⟩
      · exact ⟨by omega, hb.2⟩
    have HPS : Hid (∃ v, PtS w wL W w4 Lb Hg Ha g X (.slice (some ⟨g4, 0, none⟩) n.q C4) n.q (sharesZ n.K (datZ n.K Z s)) (P * n.q + 0) v w4) := Lib.hid ⟨v, HIW.out.gr (HDR0.out.trans hc4), fun b e hb => by
      rw [hX] at hb
      have q := HNUM.out
      have q1 := HDN.out
      have q2 := HNL.out.1
      have q3 := HIW.out.low b e
      rcases hb with rfl | hb
      · omega
      · obtain ⟨St, hp⟩ := HIW.out.put
        obtain ⟨c, hc⟩ := own_cells hp.own b e
        have := blk_lt hc
        have := HDR0.out.size
        omega, hmx, Nat.le_refl _, keeps_ch (HDR0.out.trans hc4) fun _ f => f.elim, KpX.of (HDR0.out.trans hc4) fun _ _ f => f⟩
    clear h4a hc4 h4c hmx hX HS HS4 HEN HSG HDP M1 M2 M3 M4 d0 d1 d2 d3 HIW HDR
    gi_upto_region 11 with fail
    gi_wp2
    gi_loopw [20, 21, 22, 23, 65] (fun _ _ _ _ i wr => ∃ i' : Nat, i' ≤ n.q ∧ i = .int .i64 i' ∧ Hid (∃ v, PtS w wL W w4 Lb Hg Ha g X (.slice (some ⟨g4, 0, none⟩) n.q C4) n.q (sharesZ n.K (datZ n.K Z s)) (P * n.q + i') v wr)) (fun _ _ _ _ i _ => n.q - (intOf i).toNat)
    case atStart => exact ⟨0, Nat.zero_le _, rfl, HPS⟩
    case round =>
      clear HPS
      obtain ⟨i, hi, rfl, HQ⟩ := hrel
      have i0 : (0 : Int) ≤ (i : Int) := Int.natCast_nonneg _
      by_cases hli : i < n.q
      · have i1 : (i : Int) < (n.q : Int) := by omega
        obtain ⟨v2, hq⟩ := HQ.out
        obtain ⟨b, o, C1, e4, _, hrw⟩ := hq.2.2.1
        injection e4 with hA _ hC1
        injection hA with hA
        injection hA with hb1 ho1
        subst hC1 hb1 ho1
        obtain ⟨A', C', c1, hrow, _⟩ := hrw i hli
        rw [Nat.zero_add] at c1
        have c1 : wr.cell? ⟨g4, i, none⟩ = some (.slice A' 228 C') := c1
        have hrow : RowV wr (.slice A' 228 C') 228 (sharesZ n.K (datZ n.K Z s) i) := hrow
        have hmy := shr_may (V := .slice A' 228 C') (Z := Z) HN.out HA.out HS0.out hli HARG.out.1 HARG.out.2.1 HARG.out.2.2
        have hn6 : sealN (shrK vol ep no n a Z (.slice A' 228 C') s i) = 256 := by unfold sealN; rw [hmy]; rfl
        have he6 : sealE (shrK vol ep no n a Z (.slice A' 228 C') s i) = 0 := by
          rw [sealE_may] at hmy
          exact of_decide_eq_true hmy
        have hnum := (mayB_iff.1 hmy).1
        have HSE : Hid (∀ W', Ch (fun _ => False) wr W' → Calls Tryz.prog 37 #[.agg #[.int .i64 4, .int .i64 vol, .int .i64 ((at0 : Int) + (i : Int)), .int .i64 ep, .int .i64 no, .slice A' 228 C']] W' (SealPost (shrK vol ep no n a Z (.slice A' 228 C') s i) W')) := Lib.hid (fun W' k => by
          rw [HAT.out]
          exact bseal_any (shrK vol ep no n a Z (.slice A' 228 C') s i) A' C' W' rfl ⟨⟨by show -9223372036854775808 ≤ (4 : Int); omega, by show (4 : Int) ≤ _; omega⟩, ⟨by have := hnum.vol; omega, by have := hnum.vol; omega⟩, ⟨by have := hnum.addr; omega, by have := hnum.addr; omega⟩, ⟨by have := hnum.epoch; omega, by have := hnum.epoch; omega⟩, ⟨by have := hnum.seq; omega, by have := hnum.seq; omega⟩, hrow.gr k⟩)
        have HN6 := Lib.hid hn6
        have HE6 := Lib.hid he6
        have HLI := Lib.hid hli
        obtain ⟨⟨_, _, _, _, _⟩, cv, ce, cn⟩ := HVC.out wr hq.1.ch
        have HSH := Lib.hid (share_any vol ((at0 : Int) + (i : Int)) ep no A' 228 C' wr)
        have HQ2 := Lib.hid hq
        clear hmy hn6 he6 hnum hrow hrw hq hi
        gi_upto_region 16 with fail
        refine wpIn_round_lit (by kernel_rfl) (fun ⟨_, _, h⟩ => h) ?_
        go_wp2_with fail
        refine HSH.out.mono ?_
        rintro e w5 ⟨rfl, hc5⟩
        have HC5 := Lib.hid hc5
        clear hc5 cv ce cn c1
        go_wp2_with fail
        refine (HSE.out _ HC5.out).mono ?_
        rintro e w6 ⟨A6, C6, rfl, ho6, hc6⟩
        rw [HN6.out] at ho6
        rw [HN6.out, HE6.out]
        have hby : Bytes 256 (sectZ (shrK vol ep no n a Z undef s i)) := sectZ_b (fun c _ => shares_b n.K (datZ n.K Z s) i c) 256
        rw [sect_V] at ho6
        have hq6 := HQ2.out.gr (HC5.out.trans hc6)
        obtain ⟨sb, rfl, hob⟩ := own_new (w := w) ho6 (by omega) (by omega) hby (Nat.le_trans HWL.out (Nat.le_trans (HQ2.out.1.ch.size) HC5.out.size))
        have hfk := HGN.out i HLI.out
        have hkk : P * n.q + i ≤ 1048576 := by
          have h1 : P * n.q ≤ 32 * 24 := Nat.mul_le_mul (by have := HPL.out; have := HN.out.s2; omega) HN.out.q2
          have := HN.out.q2
          omega
        obtain ⟨g2, cap, W2, hr7, hv7, hp7⟩ := hq6.app (u := .slice (some ⟨sb, 0, none⟩) 256 C6) (by have := HW9.out; have := HNUM.out; omega) HNL.out.1 HXL.out HNL.out.2.1 HNL.out.2.2 (by rw [hfk]; exact hob) hkk
        rw [hfk] at hr7
        have hr7 : (Builtin.append_ #[ 30, 30] 30 #[v2, .slice (some ⟨w6.heap.size, 0, none⟩) 1 1]).run Tryz.prog (w6.alloc (.cells #[.int .i64 ((at0 : Int) + (i : Int)), .slice (some ⟨sb, 0, none⟩) 256 C6] 35)) = _ := hr7
        have HSL := Lib.hid (slice_put w6 (.int .i64 ((at0 : Int) + (i : Int))) (.slice (some ⟨sb, 0, none⟩) 256 C6))
        obtain ⟨wq, hwq⟩ : ∃ wq, wq = w6.alloc (.cells #[.int .i64 ((at0 : Int) + (i : Int)), .slice (some ⟨sb, 0, none⟩) 256 C6] 35) := ⟨_, rfl⟩
        obtain ⟨X6, hX6⟩ : ∃ X6, X6 = w6.heap.size := ⟨_, rfl⟩
        obtain ⟨N7, hN7⟩ : ∃ N7, N7 = P * n.q + i + 1 := ⟨_, rfl⟩
        rw [← hwq, ← hX6, ← hN7] at hr7
        rw [← hwq, ← hX6] at HSL
        have HP7 : Hid (PtS w wL W w4 Lb Hg Ha g X (.slice (some ⟨g4, 0, none⟩) n.q C4) n.q (sharesZ n.K (datZ n.K Z s)) (P * n.q + (i + 1)) (.slice (some ⟨g2, 0, none⟩) N7 cap) (W2.setCell ⟨Lb, 0, none⟩ (.slice (some ⟨g2, 0, none⟩) N7 cap))) := Lib.hid (by rw [hN7, ← Nat.add_assoc]; exact hp7)
        have HRUN := Lib.hid hr7
        have v6 : w6.cell? ⟨Lb, 0, none⟩ = some v2 := blk_cell hq6.1.var
        have v7 : W2.cell? ⟨Lb, 0, none⟩ = some v2 := blk_cell hv7
        have f7 : W2.frozen? ⟨Lb, 0, none⟩ = false := blk_frozen hv7
        clear hr7 hv7 hp7 hwq hX6 hN7 hkk hfk hob hby ho6 hc6 hq6 HSE HSH HQ HQ2
        go_wp2
        gi_upto_region 19 with fail
        refine wpIn_round_lit (by kernel_rfl) (fun ⟨_, _, h⟩ => h) ?_
        go_wp2_with (first
          | ((with_reducible refine wpList_isOp (.buildSlice 30 1 #[(0, .tmp 90)]) rfl ?_); refine wpList_slicing1 _ wq rfl 30 0 1 (.tmp 90) rfl (.agg #[.int .i64 ((at0 : Int) + (i : Int)), .slice (some ⟨sb, 0, none⟩) 256 C6]) (.slice (some ⟨X6, 0, none⟩) 1 1) rfl (by exact HSL.out) ?_)
          | ((with_reducible refine wpList_isOp (.call { callee := .builtin .append, args := #[.tmp 85, .tmp 91], argTypes := #[ 30, 30] }) rfl ?_); refine wpList_appP _ rfl (.tmp 85) (.tmp 91) rfl rfl _ (.slice (some ⟨X6, 0, none⟩) 1 1) (.slice (some ⟨g2, 0, none⟩) N7 cap) W2 rfl rfl (by exact HRUN.out) ?_)
          | fail)
        gi_wp2
        go_roundw
        case rel => exact ⟨i + 1, HLI.out, by go_num, Lib.hid ⟨_, HP7.out⟩⟩
        case measure => have := HLI.out; simp [intOf]; omega
      · have hie : i = n.q := by omega
        have i1 : ¬ (i : Int) < (n.q : Int) := by omega
        obtain ⟨v2, hq⟩ := HQ.out
        rw [hie] at hq
        have HFIN : Hid (KeepsFrom wL.heap.size W wr ∧ KpStr Hg Ha W wr ∧ ∃ v, PtI w wL Lb (stpP vol ep no n a Z ((pre ++ [y]).map Fin.val)) ((pre ++ [y]).length * n.q) v wr) := Lib.hid ⟨hq.2.2.2.2.1, hq.2.2.2.2.2, v2, by rw [HGF.out.1, HGF.out.2, Nat.succ_mul]; exact hq.1⟩
        clear hie hq HQ hi
        gi_wp2
        exact HFIN.out
  case done =>
    rintro D xs W hD hxs ⟨v, hI⟩ hK
    obtain ⟨St, hp⟩ := hI.put
    obtain ⟨Av, Cv, rfl⟩ := hp.len
    have hxl : xs.length = n.S := by have := congrArg List.length hxs; simpa using this
    rw [hxl] at hp hI
    have hp : PutsO w W (.slice Av (n.S * n.q) Cv) (n.S * n.q) f St := hp.fcongr fun c hc => by rw [hxs, HFF.out]; exact stp_all hc
    have q := HNUM.out
    have q2 := HNL.out.1
    obtain ⟨o1, o2, o3⟩ := HVL.out.ord
    have nRL : ¬ R = Lb := by omega
    have nEL : ¬ E = Lb := by omega
    have n1 : ¬ R = E := by omega
    have n2 : ¬ E = R := by omega
    have lowv := hI.low
    have r0 := (hI.ch.block R (blk_lt HVL.out.r) nRL).trans HVL.out.r
    have x0 := (hI.ch.block E (blk_lt HVL.out.x) nEL).trans HVL.out.x
    obtain ⟨W1, hW1⟩ : ∃ W1, W1 = W.setCell ⟨R, 0, none⟩ (.slice Av (n.S * n.q) Cv) := ⟨_, rfl⟩
    obtain ⟨W3, hW3⟩ : ∃ W3, W3 = W1.setCell ⟨E, 0, none⟩ (.int .i64 0) := ⟨_, rfl⟩
    have kR : Ch (fun i => i = R) W W1 := by rw [hW1]; exact (Ch.refl (fun i => i = R) W).setCell (p := ⟨R, 0, none⟩) (Or.inl rfl) _
    have kE : Ch (fun i => i = E) W1 W3 := by rw [hW3]; exact (Ch.refl (fun i => i = E) W1).setCell (p := ⟨E, 0, none⟩) (Or.inl rfl) _
    have r1 : W1.heap[R]? = some (.cells #[.slice Av (n.S * n.q) Cv] 30 (0, 0)) := by rw [hW1]; exact var_set r0 _
    have x1 := (kR.block E (blk_lt x0) n2).trans x0
    have x3 : W3.heap[E]? = some (.cells #[.int .i64 0] 27 (0, 0)) := by rw [hW3]; exact var_set x1 _
    have r3 := (kE.block R (blk_lt r1) n1).trans r1
    have hDR : D ≠ R := by have := HVL.out.r; have := blk_lt HVL.out.r; omega
    have hDE : D ≠ E := by have := blk_lt HVL.out.x; omega
    have hK3 : W3.heap[D]? = some (.deferred (some [])) := (kE.block D (by have := (kR.block D (Array.getElem?_eq_some_iff.1 hK).1 hDR).trans hK; exact (Array.getElem?_eq_some_iff.1 this).1) hDE).trans ((kR.block D (Array.getElem?_eq_some_iff.1 hK).1 hDR).trans hK)
    have kD : Ch (fun i => i = D) W3 (W3.putObj D (.deferred none)) := row_ch (grownBy_putObj' W3 D (.deferred none)) |>.mono fun i _ e => by injection e with e; exact e.symm
    have hp1 := hp.off kR (fun i e x => by have := lowv i e; have := blk_lt HVL.out.r; omega) (fun i cc hc x => by rw [x] at hc; exact cells_ne r0 hc (by decide) rfl) (fun i e => by rw [e]; exact o1)
    have hp3 := hp1.off kE (fun i e x => by have := lowv i e; have := blk_lt HVL.out.x; omega) (fun i cc hc x => by rw [x] at hc; exact cells_ne x1 hc (by decide) rfl) (fun i e => by rw [e]; exact o2)
    have hp4 := hp3.off kD (fun i e x => by obtain ⟨c, hc⟩ := own_cells hp3.own i e; rw [x, hK3] at hc; cases hc) (fun i cc hc x => by rw [x, hK3] at hc; cases hc) (fun i e => by rw [e]; exact Nat.le_trans HWL.out hD)
    have HFIN : Hid (PtsPost (n.S * n.q) f w (.returned (.tuple #[.slice Av (n.S * n.q) Cv, .int .i64 0])) (W3.putObj D (.deferred none))) := Lib.hid ⟨_, _, rfl, hp4⟩
    have HR4 := Lib.hid ((kD.block R (blk_lt r3) (fun e => hDR e.symm)).trans r3)
    have HE4 := Lib.hid ((kD.block E (blk_lt x3) (fun e => hDE e.symm)).trans x3)
    have HK3 := Lib.hid hK3
    have HW3 := Lib.hid (show W3 = (W.setCell ⟨R, 0, none⟩ (.slice Av (n.S * n.q) Cv)).setCell ⟨E, 0, none⟩ (.int .i64 0) by rw [hW3, hW1])
    have l1 : W.cell? ⟨Lb, 0, none⟩ = some (.slice Av (n.S * n.q) Cv) := blk_cell hI.var
    have l2 : W.cell? ⟨R, 0, none⟩ = some (.slice none 0 0) := blk_cell r0
    have l3 : W.cell? ⟨E, 0, none⟩ = some (.int .i64 0) := blk_cell x0
    have l4 : W.frozen? ⟨R, 0, none⟩ = false := blk_frozen r0
    have l5 : W.frozen? ⟨E, 0, none⟩ = false := blk_frozen x0
    clear hp hp1 hp3 hp4 kR kE kD r0 x0 r1 x1 x3 r3 hDR hDE hK3 hK hD hxs hxl hI lowv q q2 o1 o2 o3 nRL nEL hW1 hW3
    gi_wp2
    rw [← HW3.out]
    refine ⟨by simp, .inl ⟨_, _, rfl, run_takeDeferred HK3.out, ?_⟩⟩
    exact ⟨_, results_pts Tryz.results13 _ _ R E _ 0 rfl rfl (blk_cell HR4.out) (blk_cell HE4.out), HFIN.out⟩
  case stop =>
    rintro D c pre W _ _ hf _
    exact hf.elim
end Go.Proofs.YtlbdopcchoklhaaGreat
