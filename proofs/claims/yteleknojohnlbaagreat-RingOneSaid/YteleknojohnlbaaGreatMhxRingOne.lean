/-
  What RingOne needs besides.
-/
import Derived.Test.YteleknojohnlbaaGreatMh1
import Derived.Test.YteleknojohnlbaaGreatMh25
import Derived.Test.YteleknojohnlbaaGreatMh26
import Derived.Deep.Slices
import Derived.Deep.Fields
import Derived.ChangeSame
import Derived.Test.YteleknojohnlbaaGreatMh45
import Derived.Test.YteleknojohnlbaaGreatMh44
import Derived.Deep.CutBlock
namespace Go.Proofs.YteleknojohnlbaaGreat
open Go.ChangeShapes Go.WideShapes Go.ChangeAt Go.RowKit Go.Deep
set_option linter.unusedVariables false
set_option linter.unusedSimpArgs false
theorem bytes5 : Tryz.prog.bytesOf 5 = 1 := by kernel_rfl
/-- Bytes that are handed in. -/
theorem open_row {H : Type} {enc : TypeId × Value → H} {W : World} {v : Value} {d : DataW H} {p : List MemPlace} (hv : ∃ a len cap, v = .slice a len cap) (h : DataW.Trod enc Tryz.prog W 0 (fun _ => true) true /-t-/24 v d p)
    (s1 : ∀ elems spare, d = .slice elems spare → (elems.length + spare.length) * 1 ≤ reachBytes) : ∃ n z, RowV W v n z := by
  obtain ⟨a0, len, cap, rfl⟩ := hv
  obtain ⟨fuel, hf⟩ := h
  rcases open_ints Tryz.underlying24 Tryz.underlying5 cells5 hf with ⟨hcs0, hx⟩ | ⟨a, len', cap', zs, hcs0, _, hl, hm, hzl, hx, hcell, hwf⟩
  · simp [Value.cells] at hcs0
    obtain ⟨rfl, rfl, rfl⟩ := hcs0
    exact ⟨0, fun _ => 0, nil_row _ _⟩
  · simp [Value.cells] at hcs0
    obtain ⟨rfl, rfl, rfl⟩ := hcs0
    simp only [Prod.mk.injEq] at hx
    obtain ⟨rfl, rfl⟩ := hx
    simp only [if_true] at hzl
    have hlen := s1 _ _ rfl
    simp only [lits, List.length_map, List.length_take, List.length_drop, hzl, reach_eq] at hlen
    refine ⟨len, fun c => (zs.getD c 0).toNat, some a, cap, rfl, by omega, fun h0 => ?_⟩
    obtain ⟨b, o, rfl⟩ := addr_none (hcell 0 (by omega))
    refine ⟨b, o, rfl, fun c hc => ?_⟩
    have hcc := hcell c (by omega)
    rw [add_pl] at hcc
    have hb := b8 (hwf (zs.getD c 0) (by
      rw [List.getD, List.getElem?_eq_getElem (show c < zs.length by omega)]
      exact List.getElem_mem _))
    have e : (((zs.getD c 0).toNat : Nat) : Int) = zs.getD c 0 := by omega
    exact ⟨by show _ = some (Value.int .u8 (((zs.getD c 0).toNat : Nat) : Int)); rw [e]; exact hcc, by show (zs.getD c 0).toNat < 256; omega⟩
theorem row_of {H : Type} {enc : TypeId × Value → H} {W : World} {v : Value} {x : DataW H × List MemPlace} {fuel : Nat} (h : DataW.trod enc Tryz.prog W 0 (fun _ => true) true fuel /-t-/24 [v] = some x)
    (s1 : ∀ elems spare, x.1 = .slice elems spare → (elems.length + spare.length) * 1 ≤ reachBytes) : ∃ n z, RowV W v n z := by
  have hv : ∃ a len cap, v = .slice a len cap := by
    rcases open_ints Tryz.underlying24 Tryz.underlying5 cells5 h with ⟨hcs0, _⟩ | ⟨a, len', cap', zs, hcs0, _⟩
    · exact ⟨_, _, _, by simpa using hcs0⟩
    · exact ⟨_, _, _, by simpa using hcs0⟩
  obtain ⟨a, len, cap, rfl⟩ := hv
  exact open_row (d := x.1) (p := x.2) ⟨_, _, _, rfl⟩ ⟨fuel, h⟩ s1
end Go.Proofs.YteleknojohnlbaaGreat
namespace Go.Proofs.YteleknojohnlbaaGreat
open Go.ChangeShapes Go.WideShapes Go.ChangeAt Go.RowKit Go.Deep
set_option linter.unusedVariables false
set_option maxRecDepth 100000

/-- The reach of a field that is a row, in a struct by value. -/
theorem reach_part {H : Type} {P : Program} {ts : List TypeId} {ds : List (DataW H)} (h : (DataW.weightsEach P ts ds).all (· ≤ reachBytes) = true) {j k : Nat} {t s q : TypeId} {fs : Array Field} {parts e' sp' : List (DataW H)}
    (ht : ts[j]? = some t) (hd : ds[j]? = some (.agg parts)) (hs : P.underlying t = some (.struct fs)) (hf : (fs.toList.map (·.type))[k]? = some s) (hp : parts[k]? = some (.slice e' sp')) (hu2 : P.underlying s = some (.slice q)) : (e'.length + sp'.length) * P.bytesOf q ≤ reachBytes := by
  refine of_decide_eq_true (List.all_eq_true.1 h _ (DataW.weights_mem_each ht hd _ ?_))
  simp only [DataW.weights, hs]
  exact DataW.weights_mem_each hf hp _ (by simp [DataW.weights, hu2])
theorem cellsPc : Tryz.prog.cellsOf 26 = 7 := by kernel_rfl
theorem open_piece {H : Type} {enc : TypeId × Value → H} {W : World} {v : Value} {d : DataW H} {p : List MemPlace} {b0 : Nat} {r : Reach} (hv : Value.okWide Tryz.prog W r b0 26 v) (h : DataW.Trod enc Tryz.prog W 0 (fun _ => true) true 26 v d p)
    (s1 : ∀ parts e' sp', d = .agg parts → parts[6]? = some (.slice e' sp') → (e'.length + sp'.length) * 1 ≤ reachBytes) : ∃ (q : Pn) (A : Option Addr) (C : Nat), PcIs W q (.slice A q.B.length C) ∧ v = .agg (pcC q (.slice A q.B.length C)) := by
  simp only [Value.okWide, Tryz.underlying26] at hv
  obtain ⟨xs, rfl, h2, _⟩ := hv
  obtain ⟨fuel, hf⟩ := h
  obtain ⟨ys, n', hn', hy, hlen', hyl, hfl⟩ := DataW.trod_struct Tryz.underlying26 hf
  obtain ⟨l⟩ := xs
  have hlen7 : l.length = 7 := by
    have : l.length = Tryz.prog.cellsOf 26 := by simpa using h2
    exact this.trans cellsPc
  match l, hlen7 with
  | [x0, x1, x2, x3, x4, x5, x6], _ =>
    have g0 : DataW.trod enc Tryz.prog W 0 (fun _ => true) true n' /-t-/3 [x0] = ys[0]? := hfl 0 _ rfl
    have g1 : DataW.trod enc Tryz.prog W 0 (fun _ => true) true n' /-t-/3 [x1] = ys[1]? := hfl 1 _ rfl
    have g2 : DataW.trod enc Tryz.prog W 0 (fun _ => true) true n' /-t-/3 [x2] = ys[2]? := hfl 2 _ rfl
    have g3 : DataW.trod enc Tryz.prog W 0 (fun _ => true) true n' /-t-/3 [x3] = ys[3]? := hfl 3 _ rfl
    have g4 : DataW.trod enc Tryz.prog W 0 (fun _ => true) true n' /-t-/3 [x4] = ys[4]? := hfl 4 _ rfl
    have g5 : DataW.trod enc Tryz.prog W 0 (fun _ => true) true n' /-t-/3 [x5] = ys[5]? := hfl 5 _ rfl
    have g6 : DataW.trod enc Tryz.prog W 0 (fun _ => true) true n' /-t-/24 [x6] = ys[6]? := hfl 6 _ rfl
    have hys : ys.length = 7 := hyl
    match ys, hys with
    | [y0, y1, y2, y3, y4, y5, y6], _ =>
      obtain ⟨a0, e0, _, w0⟩ := DataW.trod_int Tryz.underlying3 g0
      obtain ⟨a1, e1, _, w1⟩ := DataW.trod_int Tryz.underlying3 g1
      obtain ⟨a2, e2, _, w2⟩ := DataW.trod_int Tryz.underlying3 g2
      obtain ⟨a3, e3, _, w3⟩ := DataW.trod_int Tryz.underlying3 g3
      obtain ⟨a4, e4, _, w4⟩ := DataW.trod_int Tryz.underlying3 g4
      obtain ⟨a5, e5, _, w5⟩ := DataW.trod_int Tryz.underlying3 g5
      have g6' : DataW.trod enc Tryz.prog W 0 (fun _ => true) true n' /-t-/24 [x6] = some y6 := g6
      simp only [Prod.mk.injEq] at hy
      obtain ⟨n, z, hr⟩ := row_of g6' (fun elems spare e => s1 _ elems spare hy.1 (by simpa using e))
      simp only [List.cons.injEq, and_true] at e0 e1 e2 e3 e4 e5
      obtain ⟨A, C, e6, _⟩ := id hr
      subst e6
      have hbz := hr.bytes
      have hl : (rowL n z).length = n := by unfold rowL; simp
      refine ⟨⟨a0, a1, a2, a3, a4, a5, rowL n z⟩, A, C, ⟨?_, rowL_b hbz⟩, ?_⟩
      · show RowV W (.slice A (rowL n z).length C) (rowL n z).length (Cod.litZ (rowL n z))
        rw [hl]
        exact hr.congr fun c hc => (rowL_litz n z hc).symm
      · rw [e0, e1, e2, e3, e4, e5]
        show Value.agg _ = Value.agg (pcC _ (.slice A (rowL n z).length C))
        rw [hl]
        rfl
#print axioms open_piece
end Go.Proofs.YteleknojohnlbaaGreat
namespace Go.Proofs.YteleknojohnlbaaGreat
open Go.RowKit
set_option linter.unusedVariables false
set_option maxRecDepth 100000
set_option linter.unusedSimpArgs false

theorem pc_cells {w : World} {H n : Nat} {p : Pn} {A : Option Addr} {C : Nat} (h : w.heap[H]? = some (.cells (pcC p (.slice A n C)) 26 (0, 0))) :
    (w.cell? ⟨H, 0, none⟩ = some (.int .i64 p.seq) ∧ w.cell? ⟨H, 1, none⟩ = some (.int .i64 p.ep) ∧ w.cell? ⟨H, 2, none⟩ = some (.int .i64 p.fr) ∧ w.cell? ⟨H, 3, none⟩ = some (.int .i64 p.ch)) ∧ (w.cell? ⟨H, 4, none⟩ = some (.int .i64 p.ix) ∧ w.cell? ⟨H, 5, none⟩ = some (.int .i64 p.ofn) ∧ w.cell? ⟨H, 6, none⟩ = some (.slice A n C)) :=
  ⟨⟨blk_cell h, blk_cell h, blk_cell h, blk_cell h⟩, blk_cell h, blk_cell h, blk_cell h⟩
theorem rpair_same (p : Pn) (A A2 : Option Addr) (n C C2 : Nat) (w : World) (hn : n = p.B.length) (ha : RowV w (.slice A n C) n (Cod.litZ p.B)) (hb : RowV w (.slice A2 n C2) n (Cod.litZ p.B)) : Calls Tryz.prog 17 #[.agg (pcC p (.slice A n C)), .agg (pcC p (.slice A2 n C2))] w (Ans (.bool true) w) := by
  obtain ⟨w1, H, hR⟩ := boxR w (pcC p (.slice A n C)) 26
  obtain ⟨w2, H2, hR2⟩ := boxR w1 (pcC p (.slice A2 n C2)) 26
  have HR := Lib.hid hR
  have HR2 := Lib.hid hR2
  have hx1 := (hR2.ch.block H (blk_lt hR.cx) (fun f => f)).trans hR.cx
  obtain ⟨_, _, _, x6⟩ := pc_cells hx1
  obtain ⟨_, _, _, y6⟩ := pc_cells hR2.cx
  have HS := Lib.hid (same_any A A2 n n C C2 (Cod.litZ p.B) (Cod.litZ p.B) w2 ((ha.gr hR.ch).gr hR2.ch) ((hb.gr hR.ch).gr hR2.ch))
  rw [eqB_yes rfl (fun _ _ => rfl)] at HS
  have HX1 := Lib.hid hx1
  clear hR hR2 hx1 ha hb hn
  go_enter Tryz.func17, Tryz.ntmps17
  go_wp2_with (first | ((with_reducible refine wpList_isOp (.box 26 (.tmp 0)) rfl ?_); refine wpList_boxing _ w1 rfl 26 (.tmp 0) rfl (pcC p (.slice A n C)) H rfl (by exact HR.out.sz) (by exact HR.out.al) ?_) | ((with_reducible refine wpList_isOp (.box 26 (.tmp 1)) rfl ?_); refine wpList_boxing _ w2 rfl 26 (.tmp 1) rfl (pcC p (.slice A2 n C2)) H2 rfl (by exact HR2.out.sz) (by exact HR2.out.al) ?_) | fail)
  refine HS.out.mono ?_
  rintro e w3 ⟨rfl, j, hj⟩
  have hc : Ch (fun _ => False) w2 w3 := by rw [hj]; exact (Ch.refl _ w2).drewN j
  have k1 := (hc.block H (blk_lt HX1.out) (fun f => f)).trans HX1.out
  have k2 := (hc.block H2 (blk_lt HR2.out.cx) (fun f => f)).trans HR2.out.cx
  clear x6 y6 hj HS
  obtain ⟨⟨x0, x1, x2, x3⟩, x4, x5, x6⟩ := pc_cells k1
  obtain ⟨⟨y0, y1, y2, y3⟩, y4, y5, y6⟩ := pc_cells k2
  have HC := Lib.hid ((HR.out.ch.trans HR2.out.ch).trans hc)
  clear k1 k2 hc
  go_wp2
  go_ret
  exact ⟨rfl, HC.out⟩
#print axioms rpair_same
end Go.Proofs.YteleknojohnlbaaGreat
namespace Go.Proofs.YteleknojohnlbaaGreat
open Go.RowKit
set_option linter.unusedVariables false
set_option maxRecDepth 100000
set_option linter.unusedSimpArgs false

section
variable {n : Nat} {z : Nat → Nat} {vol vol' : Int} {g : Ge} {m m' slot slot' : Int} {p y : Pn}
theorem one_where (h : TellsR n z vol g m slot p) (k : TellsR n z vol' g m' slot' y) : y = p ∧ vol' = vol ∧ m' = m ∧ slot' = slot := by
  obtain rfl := tells_one h k
  have s1 := h.back undef
  have s2 := k.back undef
  have e1 : vol = vol' := s1.vol.symm.trans s2.vol
  have e2 : addrR g m (p.seq % g.wal) = addrR g m' (p.seq % g.wal) := s1.addr.symm.trans s2.addr
  have hg := (rokB_iff.1 h.sec).2.1
  obtain ⟨⟨a1, a2⟩, _⟩ := may_parts hg
  have hm := (rokB_iff.1 h.sec).2.2.1
  have hm' := (rokB_iff.1 k.sec).2.2.1
  refine ⟨rfl, e1.symm, ?_, k.slot.symm.trans h.slot⟩
  unfold addrR at e2
  obtain rfl | rfl : m = 0 ∨ m = 1 := by omega
  · obtain rfl | rfl : m' = 0 ∨ m' = 1 := by omega
    · rfl
    · omega
  · obtain rfl | rfl : m' = 0 ∨ m' = 1 := by omega
    · omega
    · rfl
theorem one_tells {o : Option Pn} (hr : rokB vol g m p = true) (hb : ∀ x ∈ p.B, x < 256) (h : TellR 256 (sectR vol g m p) vol' g m' slot' o) : o = if vol' = vol ∧ m' = m ∧ slot' = p.seq % g.wal then some p else none := by
  have own := TellsR.own hr hb
  by_cases q : vol' = vol ∧ m' = m ∧ slot' = p.seq % g.wal
  · rw [if_pos q]
    obtain ⟨rfl, rfl, rfl⟩ := q
    exact (h p).2 own
  · rw [if_neg q]
    exact h.none fun y hy => q (by obtain ⟨_, a, b, c⟩ := one_where own hy; exact ⟨a, b, c⟩)
end
#print axioms one_tells
end Go.Proofs.YteleknojohnlbaaGreat
namespace Go.Proofs.YteleknojohnlbaaGreat
open Go.RowKit
set_option linter.unusedVariables false
set_option maxRecDepth 100000
set_option linter.unusedSimpArgs false

structure HoldO (H F : Nat) (g : Ge) (sq : Int) (w : World) : Prop where
  x0 : w.cell? ⟨H, 0, none⟩ = some (.int .i64 g.wal)
  x1 : w.cell? ⟨H, 1, none⟩ = some (.int .i64 g.st)
  x2 : w.cell? ⟨H, 2, none⟩ = some (.int .i64 g.k)
  x3 : w.cell? ⟨H, 3, none⟩ = some (.int .i64 g.m)
  s0 : w.cell? ⟨F, 0, none⟩ = some (.int .i64 sq)
structure TldO (wd wx : World) (z : Nat → Nat) (vol : Int) (g : Ge) (mir sl : Int) (G : Nat) (o : Option Pn) (V : Value) : Prop where
  tell : TellR 256 z vol g mir sl o
  var : wx.heap[G]? = some (.cells (pcC (optP o) V) 26 (0, 0))
  row : RowV wx V (optP o).B.length (Cod.litZ (optP o).B)
  ch : Ch (fun _ => False) wd wx
theorem HoldO.gr {H F : Nat} {g : Ge} {sq : Int} {w w' : World} (h : HoldO H F g sq w) (c : Ch (fun _ => False) w w') : HoldO H F g sq w' :=
  ⟨c.cell h.x0 (fun f => f), c.cell h.x1 (fun f => f), c.cell h.x2 (fun f => f), c.cell h.x3 (fun f => f), c.cell h.s0 (fun f => f)⟩
set_option maxHeartbeats 12800000 in
theorem ringOne_of {A : Option Addr} {C : Nat} (vol : Int) (g : Ge) (p : Pn) (slot other : Int) (w : World) (hv : N64 vol) (ho : N64 other) (hp : PcIs w p (.slice A p.B.length C)) : Calls Tryz.prog 10 #[.int .i64 vol, .agg (geC g), .agg (pcC p (.slice A p.B.length C)), .int .i64 slot, .int .i64 other] w (Told w) := by
  obtain ⟨w1, H, hR⟩ := geR w g
  obtain ⟨w1b, F, hF⟩ := boxR w1 (pcC p (.slice A p.B.length C)) 26
  have HR := Lib.hid hR
  have HF := Lib.hid hF
  have HC1 := Lib.hid (hR.ch.trans hF.ch)
  have HAW := Lib.hid (rawake_any w1b)
  have HP := Lib.hid hp
  have HVO := Lib.hid (And.intro hv ho)
  have hl : p.B.length ≤ 140737488351232 := by obtain ⟨_, _, e, l, _⟩ := hp.row; exact l.1
  have HL := Lib.hid hl
  obtain ⟨nb, hnb⟩ : ∃ nb, nb = p.B.length := ⟨_, rfl⟩
  rw [← hnb] at HP HF ⊢
  have HNB := Lib.hid hnb
  clear hR hF hp hl hv ho hnb
  go_enter Tryz.func10, Tryz.ntmps10
  go_wp2_with (first | ((with_reducible refine wpList_isOp (.box 23 (.tmp 1)) rfl ?_); refine wpList_boxing _ w1 rfl 23 (.tmp 1) rfl (geC g) H rfl (by exact HR.out.sz) (by exact HR.out.al) ?_) | ((with_reducible refine wpList_isOp (.box 26 (.tmp 2)) rfl ?_); refine wpList_boxing _ w1b rfl 26 (.tmp 2) rfl (pcC p (.slice A nb C)) F rfl (by exact HF.out.sz) (by exact HF.out.al) ?_) | fail)
  refine HAW.out.mono ?_
  rintro e w2 ⟨rfl, hc2⟩
  have HC2 := Lib.hid (HC1.out.trans hc2)
  obtain ⟨x0, x1, x2, x3⟩ := HR.out.x.gr (HF.out.ch.trans hc2)
  have HF2 : Hid (w2.heap[F]? = some (.cells (pcC p (.slice A nb C)) 26 (0, 0))) := Lib.hid ((hc2.block F (blk_lt HF.out.cx) (fun f => f)).trans HF.out.cx)
  have HMG := Lib.hid (rgmay_any g w2)
  have HC2b := Lib.hid (HF.out.ch.trans hc2)
  clear hc2 HAW
  go_wp2_with fail
  refine HMG.out.mono ?_
  rintro e w3 ⟨rfl, hc3⟩
  have HC3 := Lib.hid (HC2.out.trans hc3)
  have HF3 := Lib.hid ((hc3.block F (blk_lt HF2.out) (fun f => f)).trans HF2.out)
  have HC3b := Lib.hid (HC2b.out.trans hc3)
  clear hc3 HMG x0 x1 x2 x3 HF2 HC2b
  cases hmg : mayG g
  · clear hmg
    go_wp2
    go_ret
    exact ⟨rfl, HC3.out⟩
  have HMG := Lib.hid hmg
  have HPM := Lib.hid (rgMay_any p A C w3 HL.out)
  rw [← HNB.out] at HPM
  obtain ⟨⟨y0, y1, y2, y3⟩, y4, y5, y6⟩ := pc_cells HF3.out
  clear hmg
  go_wp2_with fail
  refine HPM.out.mono ?_
  rintro e w4 ⟨rfl, hc4⟩
  have HC4 := Lib.hid (HC3.out.trans hc4)
  have HF4 := Lib.hid ((hc4.block F (blk_lt HF3.out) (fun f => f)).trans HF3.out)
  have HC4b := Lib.hid (HC3b.out.trans hc4)
  clear hc4 HPM y0 y1 y2 y3 y4 y5 y6 HF3
  cases hmp : mayP p
  · clear hmp
    go_wp2
    go_ret
    exact ⟨rfl, HC4.out⟩
  have HMP := Lib.hid hmp
  clear hmp
  by_cases h1 : vol < 0
  · go_wp2
    go_ret
    exact ⟨rfl, HC4.out⟩
  by_cases h2 : 4294967295 < vol
  · go_wp2
    go_ret
    exact ⟨rfl, HC4.out⟩
  have HRK : Hid (∀ m : Nat, m < 2 → rokB vol g (m : Int) p = true) := Lib.hid fun m hm => rokB_iff.2 ⟨HMP.out, HMG.out, ⟨by omega, by omega⟩, ⟨by omega, by omega⟩⟩
  obtain ⟨sq, hsq⟩ : ∃ sq, sq = p.seq := ⟨_, rfl⟩
  obtain ⟨sl, hsl⟩ : ∃ sl, sl = p.seq % g.wal := ⟨_, rfl⟩
  have hwn : ¬ g.wal = 0 := by obtain ⟨⟨a1, a2⟩, _⟩ := may_parts HMG.out; omega
  have HWN := Lib.hid hwn
  have HTM := Lib.hid (show Int.tmod sq g.wal = sl by rw [hsq, hsl]; exact Int.tmod_eq_emod_of_nonneg (mayP_iff.1 HMP.out).seq.1)
  have HSL := Lib.hid hsl
  have HSQ := Lib.hid hsq.symm
  have HB0 : Hid (HoldO H F g sq w4) := Lib.hid (by
    have gx := HR.out.x.gr HC4b.out
    rw [hsq]
    exact ⟨gx.x0, gx.x1, gx.x2, gx.x3, (pc_cells HF4.out).1.1⟩)
  have HBT := Lib.hid HP.out.byt
  have HPW : Hid (∀ wx, Ch (fun _ => False) w4 wx → PcIs wx p (.slice A nb C)) := Lib.hid fun wx k => HP.out.gr (HC4.out.trans k)
  clear hsq hsl hwn
  go_wp2_with fail
  go_loopw [13, 14, 15, 16, 17, 18, 19, 20, 21, 22, 23, 24, 48, 49, 50, 51, 52, 53, 54, 55, 56, 57, 58, 59, 60, 61, 62, 63, 64, 65, 66, 67, 68, 69, 70, 71, 72, 73, 74, 75, 76, 77, 78, 79, 80, 81, 82, 83, 84, 85, 86, 87, 88, 89, 90, 91, 92, 93, 94, 95, 96, 97, 98, 99, 100, 101, 102, 103, 104, 105, 106, 107, 108, 109, 110, 111, 112, 113, 114, 115, 116, 117, 118, 119, 120, 121, 122, 123, 124, 125, 126, 127, 128, 129, 130, 131, 132, 133, 134, 135, 136, 137, 138, 139, 140, 141, 142] (fun i _ _ _ _ _ _ _ _ _ _ _ _ _ _ _ _ _ _ _ _ _ _ _ _ _ _ _ _ _ _ _ _ _ _ _ _ _ _ _ _ _ _ _ _ _ _ _ _ _ _ _ _ _ _ _ _ _ _ _ _ _ _ _ _ _ _ _ _ _ _ _ _ _ _ _ _ _ _ _ _ _ _ _ _ _ _ _ _ _ _ _ _ _ _ _ _ _ _ _ _ _ _ _ _ _ _ wr => ∃ m : Nat, m ≤ 2 ∧ i = .int .i64 (m : Int) ∧ Hid (Ch (fun _ => False) w4 wr)) (fun i _ _ _ _ _ _ _ _ _ _ _ _ _ _ _ _ _ _ _ _ _ _ _ _ _ _ _ _ _ _ _ _ _ _ _ _ _ _ _ _ _ _ _ _ _ _ _ _ _ _ _ _ _ _ _ _ _ _ _ _ _ _ _ _ _ _ _ _ _ _ _ _ _ _ _ _ _ _ _ _ _ _ _ _ _ _ _ _ _ _ _ _ _ _ _ _ _ _ _ _ _ _ _ _ _ _ _ => 2 - (intOf i).toNat)
  case atStart => exact ⟨0, by omega, rfl, Lib.hid (Ch.refl _ _)⟩
  case round =>
    obtain ⟨m, hm, rfl, HCW⟩ := hrel
    by_cases hlt : m < 2
    · have i1 : (0 : Int) ≤ (m : Int) := Int.natCast_nonneg _
      have i2 : (m : Int) < 2 := by omega
      have HLT := Lib.hid hlt
      have hpr := HPW.out wr HCW.out
      have hrk := HRK.out m hlt
      have hse := rsector_any vol g (m : Int) p (.slice A nb C) wr HVO.out.1 hpr
      have HSE := Lib.hid hse
      obtain ⟨⟨y0, y1, y2, y3⟩, y4, y5, y6⟩ := pc_cells ((HCW.out.block F (blk_lt HF4.out) (fun f => f)).trans HF4.out)
      obtain ⟨x0, x1, x2, x3⟩ := HR.out.x.gr (HC4b.out.trans HCW.out)
      have HRM := Lib.hid hrk
      clear hlt hpr hrk hse
      go_wp2_with fail
      refine HSE.out.mono ?_
      rintro e ws ⟨A1, C1, rfl, ho1, hc1⟩
      have hN1 : secRN vol g (m : Int) p = 256 := by unfold secRN; rw [HRM.out]; rfl
      have hE1 : secRE vol g (m : Int) p = 0 := by unfold secRE; rw [HRM.out]; rfl
      rw [hN1] at ho1 ⊢
      rw [hE1]
      have HROW := Lib.hid (ownsRow_rowV ho1 (by omega) (sectR_b HBT.out 256))
      have HCS := Lib.hid (HCW.out.trans hc1)
      clear ho1 hc1 hN1 hE1 x0 x1 x2 x3 y0 y1 y2 y3 y4 y5 y6 HSE
      obtain ⟨wd, hwd⟩ : ∃ wd, wd = ws.drew := ⟨_, rfl⟩
      have hcd : Ch (fun _ => False) ws wd := by rw [hwd]; exact (Ch.refl _ ws).drew
      have HWD := Lib.hid hwd
      have HSD := Lib.hid (HB0.out.gr (HCS.out.trans hcd))
      have HTO : Hid (∀ wy, Ch (fun _ => False) wd wy → Calls Tryz.prog 15 #[.slice A1 256 C1, .int .i64 vol, .agg (geC g), .int .i64 (m : Int), .int .i64 sl] wy (TellPostR 256 (sectR vol g (m : Int) p) vol g (m : Int) sl wy)) := Lib.hid fun wy k => rtold_any A1 256 C1 (sectR vol g (m : Int) p) vol g (m : Int) sl wy HVO.out.1 ((HROW.out.gr hcd).gr k)
      have HCD := Lib.hid (HCS.out.trans hcd)
      have HRD := Lib.hid (HROW.out.gr hcd)
      clear hwd hcd HROW HCS
      go_upto_region 9 with fail
      go_cut [16, 17] (fun t bv wx => ∃ G5 o5 V5, t = .pointer (some ⟨G5, 0, none⟩) ∧ bv = .bool o5.isSome ∧ Hid (TldO wd wx (sectR vol g (m : Int) p) vol g (m : Int) sl G5 o5 V5))
      case first =>
        refine wp_region_held (S := (HoldO H F g sq)) (by kernel_rfl) ?_
        change wpAnyH _ _ _ _ _ _ _ _ (World.drew _)
        rw [← HWD.out]
        refine wpAnyH_take (i := 0) (oi := ⟨some 61, .move (.tmp 14), _, _, _, none⟩) (v := .slice A1 256 C1) rfl (by kernel_rfl) (by kernel_rfl) (by kernel_rfl) (fun _ _ _ h => h) (Or.inl ⟨by rfl, fun w' hS => ?_⟩) HSD.out ?_
        · clear hS; go_simp
        simp only [Act.put, List.setIfInBounds_toArray, List.set_cons_zero, List.set_cons_succ]
        refine wpAnyH_take (i := 1) (oi := ⟨some 62, .move (.tmp 0), _, _, _, none⟩) (v := .int .i64 vol) rfl (by kernel_rfl) (by kernel_rfl) (by kernel_rfl) (fun _ _ _ h => h) (Or.inl ⟨by rfl, fun w' hS => ?_⟩) HSD.out ?_
        · clear hS; go_simp
        simp only [Act.put, List.setIfInBounds_toArray, List.set_cons_zero, List.set_cons_succ]
        refine wpAnyH_take (i := 2) (oi := ⟨some 63, .load 23 (.tmp 6), _, _, _, none⟩) (v := .agg (geC g)) rfl (by kernel_rfl) (by kernel_rfl) (by kernel_rfl) (fun _ _ _ h => h) (Or.inl ⟨by rfl, fun w' hS => ?_⟩) HSD.out ?_
        · have s0 := hS.x0; have s1 := hS.x1; have s2 := hS.x2; have s3 := hS.x3; clear hS; go_simp; rfl
        simp only [Act.put, List.setIfInBounds_toArray, List.set_cons_zero, List.set_cons_succ]
        refine wpAnyH_take (i := 3) (oi := ⟨some 64, .move (.tmp 13), _, _, _, none⟩) (v := .int .i64 (m : Int)) rfl (by kernel_rfl) (by kernel_rfl) (by kernel_rfl) (fun _ _ _ h => h) (Or.inl ⟨by rfl, fun w' hS => ?_⟩) HSD.out ?_
        · clear hS; go_simp
        simp only [Act.put, List.setIfInBounds_toArray, List.set_cons_zero, List.set_cons_succ]
        refine wpAnyH_take (i := 4) (oi := ⟨some 65, .fieldAddr 26 (.tmp 7) 0, _, _, _, none⟩) (v := .pointer (some ⟨F, 0, none⟩)) rfl (by kernel_rfl) (by kernel_rfl) (by kernel_rfl) (fun _ _ _ h => h) (Or.inl ⟨by rfl, fun w' hS => ?_⟩) HSD.out ?_
        · clear hS; go_simp
        simp only [Act.put, List.setIfInBounds_toArray, List.set_cons_zero, List.set_cons_succ]
        refine wpAnyH_take (i := 5) (oi := ⟨some 66, .load 3 (.tmp 65), _, _, _, none⟩) (v := .int .i64 sq) rfl (by kernel_rfl) (by kernel_rfl) (by kernel_rfl) (fun _ _ _ h => h) (Or.inl ⟨by rfl, fun w' hS => ?_⟩) HSD.out ?_
        · have s := hS.s0; clear hS; go_simp
        simp only [Act.put, List.setIfInBounds_toArray, List.set_cons_zero, List.set_cons_succ]
        refine wpAnyH_take (i := 6) (oi := ⟨some 67, .fieldAddr 23 (.tmp 6) 0, _, _, _, none⟩) (v := .pointer (some ⟨H, 0, none⟩)) rfl (by kernel_rfl) (by kernel_rfl) (by kernel_rfl) (fun _ _ _ h => h) (Or.inl ⟨by rfl, fun w' hS => ?_⟩) HSD.out ?_
        · clear hS; go_simp
        simp only [Act.put, List.setIfInBounds_toArray, List.set_cons_zero, List.set_cons_succ]
        refine wpAnyH_take (i := 7) (oi := ⟨some 68, .load 3 (.tmp 67), _, _, _, none⟩) (v := .int .i64 g.wal) rfl (by kernel_rfl) (by kernel_rfl) (by kernel_rfl) (fun _ _ _ h => h) (Or.inl ⟨by rfl, fun w' hS => ?_⟩) HSD.out ?_
        · have s := hS.x0; clear hS; go_simp
        simp only [Act.put, List.setIfInBounds_toArray, List.set_cons_zero, List.set_cons_succ]
        refine wpAnyH_take (i := 8) (oi := ⟨some 69, .binOp .rem 3 (.tmp 66) (.tmp 68) 3, _, _, _, none⟩) (v := .int .i64 sl) rfl (by kernel_rfl) (by kernel_rfl) (by kernel_rfl) (fun _ _ _ h => h) (Or.inl ⟨by rfl, fun w' hS => ?_⟩) HSD.out ?_
        · clear hS; go_simp; rw [if_neg HWN.out, HTM.out]
        simp only [Act.put, List.setIfInBounds_toArray, List.set_cons_zero, List.set_cons_succ]
        refine wpAnyH_ready (rs := [9, 13]) (by kernel_rfl) (by simp) ?_
        refine AllReadyH.cons rfl (fun K hK => ?_) (AllReadyH.cons rfl (fun K hK => ?_) AllReadyH.nil)
        · go_simp
          refine (HTO.out wd (Ch.refl _ _)).mono ?_
          rintro e w5 ⟨o5, V5, ht5, rfl, hn5, hc5⟩
          obtain ⟨wz, wx, G5, hV5⟩ := varPc (optP o5) (V := V5) (by obtain ⟨A, C, e⟩ := hn5.len; exact ⟨_, _, _, e⟩) w5
          have HS5 := Lib.hid (HSD.out.gr hc5)
          have HSZ := Lib.hid (show HoldO H F g sq wz by rw [← hV5.al]; exact (HSD.out.gr hc5).gr ((Ch.refl _ w5).alloc _ _))
          have HSX := Lib.hid ((HSD.out.gr hc5).gr hV5.ch)
          have HFIN : Hid (TldO wd wx (sectR vol g (m : Int) p) vol g (m : Int) sl G5 o5 V5) := Lib.hid ⟨ht5, hV5.cx, hn5.row.gr hV5.ch, hc5.trans hV5.ch⟩
          have HV5 := Lib.hid hV5
          clear ht5 hn5 hc5 hV5
          dsimp only
          refine hK.out _ _ HS5.out (fun _ => ?_)
          clear hK K
          try simp only [Act.put, List.setIfInBounds_toArray, List.set_cons_zero, List.set_cons_succ]
          refine wpAnyH_take (i := 10) (oi := ⟨some 60, .move (.tmp 70), _, _, _, none⟩) (v := .tuple #[.agg (pcC (optP o5) V5), .bool o5.isSome]) rfl (by kernel_rfl) (by kernel_rfl) (by kernel_rfl) (fun _ _ _ h => h) (Or.inl ⟨by rfl, fun w' hS => ?_⟩) HS5.out ?_
          · clear hS; go_simp
          try simp only [Act.put, List.setIfInBounds_toArray, List.set_cons_zero, List.set_cons_succ]
          refine wpAnyH_take (i := 11) (oi := ⟨some 71, .extract (.tmp 60) 0, _, _, _, none⟩) (v := .agg (pcC (optP o5) V5)) rfl (by kernel_rfl) (by kernel_rfl) (by kernel_rfl) (fun _ _ _ h => h) (Or.inl ⟨by rfl, fun w' hS => ?_⟩) HS5.out ?_
          · clear hS; go_simp
          try simp only [Act.put, List.setIfInBounds_toArray, List.set_cons_zero, List.set_cons_succ]
          refine wpAnyH_take (i := 12) (oi := ⟨some 72, .extract (.tmp 60) 1, _, _, _, none⟩) (v := .bool o5.isSome) rfl (by kernel_rfl) (by kernel_rfl) (by kernel_rfl) (fun _ _ _ h => h) (Or.inl ⟨by rfl, fun w' hS => ?_⟩) HS5.out ?_
          · clear hS; go_simp
          try simp only [Act.put, List.setIfInBounds_toArray, List.set_cons_zero, List.set_cons_succ]
          refine wpAnyH_ready (rs := [13]) (by kernel_rfl) (by simp) ?_
          refine AllReadyH.cons rfl (fun K hK => ?_) AllReadyH.nil
          refine step_making (o := ⟨some 16, .alloc 26, _, _, _, none⟩) wz rfl 26 rfl (pcC pn0 (.slice none 0 0)) G5 (zero_pc _) HV5.out.sz HV5.out.al ?_
          refine hK.out _ _ HSZ.out (fun _ => ?_)
          clear hK K
          try simp only [Act.put, List.setIfInBounds_toArray, List.set_cons_zero, List.set_cons_succ]
          refine wpAnyH_ready (rs := [14]) (by kernel_rfl) (by simp) ?_
          refine AllReadyH.cons rfl (fun K hK => ?_) AllReadyH.nil
          refine step_storing (o := ⟨none, .store 26 (.tmp 16) (.tmp 71), _, _, _, none⟩) wx rfl 26 (.tmp 16) (.tmp 71) rfl (.agg (pcC (optP o5) V5)) ⟨G5, 0, none⟩ rfl rfl HV5.out.st ?_
          refine hK.out _ _ HSX.out (fun _ => ?_)
          clear hK K
          try simp only [Act.put, List.setIfInBounds_toArray, List.set_cons_zero, List.set_cons_succ]
          refine wpAnyH_take (i := 15) (oi := ⟨some 17, .assign (.tmp 72), _, _, _, none⟩) (v := .bool o5.isSome) rfl (by kernel_rfl) (by kernel_rfl) (by kernel_rfl) (fun _ _ _ h => h) (Or.inl ⟨by rfl, fun w' hS => ?_⟩) HSX.out ?_
          · clear hS; go_simp
          try simp only [Act.put, List.setIfInBounds_toArray, List.set_cons_zero, List.set_cons_succ]
          refine wpAnyH_done (by kernel_rfl) ?_ _
          go_wp2_with fail
          go_meet
          exact ⟨G5, o5, V5, rfl, rfl, HFIN⟩
        · obtain ⟨wz, G5, hZ⟩ := zePc wd
          have HZZ := Lib.hid hZ
          have HSZ := Lib.hid (HSD.out.gr hZ.ch)
          clear hZ
          refine step_making (o := ⟨some 16, .alloc 26, _, _, _, none⟩) wz rfl 26 rfl (pcC pn0 (.slice none 0 0)) G5 (zero_pc _) HZZ.out.sz HZZ.out.al ?_
          refine hK.out _ _ HSZ.out (fun _ => ?_)
          clear hK K
          try simp only [Act.put, List.setIfInBounds_toArray, List.set_cons_zero, List.set_cons_succ]
          refine wpAnyH_ready (rs := [9]) (by kernel_rfl) (by simp) ?_
          refine AllReadyH.cons rfl (fun K hK => ?_) AllReadyH.nil
          go_simp
          refine (HTO.out wz HZZ.out.ch).mono ?_
          rintro e w5 ⟨o5, V5, ht5, rfl, hn5, hc5⟩
          have hx := (hc5.block G5 (blk_lt HZZ.out.cx) (fun f => f)).trans HZZ.out.cx
          obtain ⟨wx, hV5⟩ := stPc (optP o5) hx (V := V5) (by obtain ⟨A, C, e⟩ := hn5.len; exact ⟨_, _, _, e⟩)
          have hcx : Ch (fun _ => False) wd wx := (HZZ.out.ch.trans hc5).new (hV5.ch.mono fun i _ hi => by rw [hi]; exact Nat.le_of_eq HZZ.out.sz)
          have HS5 := Lib.hid (HSZ.out.gr hc5)
          have HSX := Lib.hid (HSD.out.gr hcx)
          have HFIN : Hid (TldO wd wx (sectR vol g (m : Int) p) vol g (m : Int) sl G5 o5 V5) := Lib.hid ⟨ht5, hV5.cx, (hn5.set hV5.ch hx (by decide)).row, hcx⟩
          have HV5 := Lib.hid hV5
          clear ht5 hn5 hc5 hV5 hx hcx
          dsimp only
          refine hK.out _ _ HS5.out (fun _ => ?_)
          clear hK K
          try simp only [Act.put, List.setIfInBounds_toArray, List.set_cons_zero, List.set_cons_succ]
          refine wpAnyH_take (i := 10) (oi := ⟨some 60, .move (.tmp 70), _, _, _, none⟩) (v := .tuple #[.agg (pcC (optP o5) V5), .bool o5.isSome]) rfl (by kernel_rfl) (by kernel_rfl) (by kernel_rfl) (fun _ _ _ h => h) (Or.inl ⟨by rfl, fun w' hS => ?_⟩) HS5.out ?_
          · clear hS; go_simp
          try simp only [Act.put, List.setIfInBounds_toArray, List.set_cons_zero, List.set_cons_succ]
          refine wpAnyH_take (i := 11) (oi := ⟨some 71, .extract (.tmp 60) 0, _, _, _, none⟩) (v := .agg (pcC (optP o5) V5)) rfl (by kernel_rfl) (by kernel_rfl) (by kernel_rfl) (fun _ _ _ h => h) (Or.inl ⟨by rfl, fun w' hS => ?_⟩) HS5.out ?_
          · clear hS; go_simp
          try simp only [Act.put, List.setIfInBounds_toArray, List.set_cons_zero, List.set_cons_succ]
          refine wpAnyH_take (i := 12) (oi := ⟨some 72, .extract (.tmp 60) 1, _, _, _, none⟩) (v := .bool o5.isSome) rfl (by kernel_rfl) (by kernel_rfl) (by kernel_rfl) (fun _ _ _ h => h) (Or.inl ⟨by rfl, fun w' hS => ?_⟩) HS5.out ?_
          · clear hS; go_simp
          try simp only [Act.put, List.setIfInBounds_toArray, List.set_cons_zero, List.set_cons_succ]
          refine wpAnyH_ready (rs := [14]) (by kernel_rfl) (by simp) ?_
          refine AllReadyH.cons rfl (fun K hK => ?_) AllReadyH.nil
          refine step_storing (o := ⟨none, .store 26 (.tmp 16) (.tmp 71), _, _, _, none⟩) wx rfl 26 (.tmp 16) (.tmp 71) rfl (.agg (pcC (optP o5) V5)) ⟨G5, 0, none⟩ rfl rfl HV5.out.st ?_
          refine hK.out _ _ HSX.out (fun _ => ?_)
          clear hK K
          try simp only [Act.put, List.setIfInBounds_toArray, List.set_cons_zero, List.set_cons_succ]
          refine wpAnyH_take (i := 15) (oi := ⟨some 17, .assign (.tmp 72), _, _, _, none⟩) (v := .bool o5.isSome) rfl (by kernel_rfl) (by kernel_rfl) (by kernel_rfl) (fun _ _ _ h => h) (Or.inl ⟨by rfl, fun w' hS => ?_⟩) HSX.out ?_
          · clear hS; go_simp
          try simp only [Act.put, List.setIfInBounds_toArray, List.set_cons_zero, List.set_cons_succ]
          refine wpAnyH_done (by kernel_rfl) ?_ _
          go_wp2_with fail
          go_meet
          exact ⟨G5, o5, V5, rfl, rfl, HFIN⟩
      obtain ⟨G5, o5, V5, rfl, rfl, HFI⟩ := hcut
      obtain ⟨wx, hwx⟩ : ∃ wx, wx = wc := ⟨_, rfl⟩
      rw [← hwx] at HFI ⊢
      clear hwx
      have ho5 := one_tells HRM.out HBT.out HFI.out.tell
      rw [if_pos ⟨rfl, rfl, HSL.out⟩] at ho5
      subst ho5
      have HFI : Hid (TldO wd wx (sectR vol g (m : Int) p) vol g (m : Int) sl G5 (some p) V5) := HFI
      obtain ⟨A5, C5, e5, _⟩ := id HFI.out.row
      rw [show (optP (some p)).B.length = nb from HNB.out.symm] at e5
      subst e5
      have HCX := Lib.hid (HCD.out.trans HFI.out.ch)
      have HROW := Lib.hid (HRD.out.gr HFI.out.ch)
      have hrw := (HPW.out wx HCX.out).row
      rw [← HNB.out] at hrw
      have hr5 : RowV wx (.slice A5 nb C5) nb (Cod.litZ p.B) := by have := HFI.out.row; rwa [show (optP (some p)).B.length = nb from HNB.out.symm] at this
      have HPR := Lib.hid (rpair_same p A5 A nb C5 C wx HNB.out hr5 hrw)
      obtain ⟨⟨y0, y1, y2, y3⟩, y4, y5, y6⟩ := pc_cells ((HCX.out.block F (blk_lt HF4.out) (fun f => f)).trans HF4.out)
      have hvar : wx.heap[G5]? = some (.cells (pcC p (.slice A5 nb C5)) 26 (0, 0)) := HFI.out.var
      obtain ⟨⟨z0, z1, z2, z3⟩, z4, z5, z6⟩ := pc_cells hvar
      rw [show (some p : Option Pn).isSome = true from rfl]
      clear hrw hr5 hvar HTO HCD HRD HSD HWD HFI
      go_wp2_with fail
      refine HPR.out.mono ?_
      rintro e ws ⟨rfl, hcq⟩
      have HROW := Lib.hid (HROW.out.gr hcq)
      have HCS := Lib.hid (HCX.out.trans hcq)
      clear hcq HCX HPR y0 y1 y2 y3 y4 y5 y6 z0 z1 z2 z3 z4 z5 z6
      have HMI := Lib.hid (show wrap64 (1 - (m : Int)) = 1 - (m : Int) from IntWalk.wrap64_in _ ⟨by omega, by omega⟩)
      obtain ⟨wd, hwd⟩ : ∃ wd, wd = ws.drew := ⟨_, rfl⟩
      have hcd : Ch (fun _ => False) ws wd := by rw [hwd]; exact (Ch.refl _ ws).drew
      have HWD := Lib.hid hwd
      have HSD := Lib.hid (HB0.out.gr (HCS.out.trans hcd))
      have HTO : Hid (∀ wy, Ch (fun _ => False) wd wy → Calls Tryz.prog 15 #[.slice A1 256 C1, .int .i64 vol, .agg (geC g), .int .i64 (1 - (m : Int)), .int .i64 sl] wy (TellPostR 256 (sectR vol g (m : Int) p) vol g (1 - (m : Int)) sl wy)) := Lib.hid fun wy k => rtold_any A1 256 C1 (sectR vol g (m : Int) p) vol g (1 - (m : Int)) sl wy HVO.out.1 ((HROW.out.gr hcd).gr k)
      have HCD := Lib.hid (HCS.out.trans hcd)
      have HRD := Lib.hid (HROW.out.gr hcd)
      clear hwd hcd HROW HCS
      go_upto_region 11 with fail
      go_cut [19, 20] (fun t bv wx => ∃ G5 o5 V5, t = .pointer (some ⟨G5, 0, none⟩) ∧ bv = .bool o5.isSome ∧ Hid (TldO wd wx (sectR vol g (m : Int) p) vol g (1 - (m : Int)) sl G5 o5 V5))
      case first =>
        refine wp_region_held (S := (HoldO H F g sq)) (by kernel_rfl) ?_
        change wpAnyH _ _ _ _ _ _ _ _ (World.drew _)
        rw [← HWD.out]
        refine wpAnyH_take (i := 0) (oi := ⟨some 77, .move (.tmp 14), _, _, _, none⟩) (v := .slice A1 256 C1) rfl (by kernel_rfl) (by kernel_rfl) (by kernel_rfl) (fun _ _ _ h => h) (Or.inl ⟨by rfl, fun w' hS => ?_⟩) HSD.out ?_
        · clear hS; go_simp
        simp only [Act.put, List.setIfInBounds_toArray, List.set_cons_zero, List.set_cons_succ]
        refine wpAnyH_take (i := 1) (oi := ⟨some 78, .move (.tmp 0), _, _, _, none⟩) (v := .int .i64 vol) rfl (by kernel_rfl) (by kernel_rfl) (by kernel_rfl) (fun _ _ _ h => h) (Or.inl ⟨by rfl, fun w' hS => ?_⟩) HSD.out ?_
        · clear hS; go_simp
        simp only [Act.put, List.setIfInBounds_toArray, List.set_cons_zero, List.set_cons_succ]
        refine wpAnyH_take (i := 2) (oi := ⟨some 79, .load 23 (.tmp 6), _, _, _, none⟩) (v := .agg (geC g)) rfl (by kernel_rfl) (by kernel_rfl) (by kernel_rfl) (fun _ _ _ h => h) (Or.inl ⟨by rfl, fun w' hS => ?_⟩) HSD.out ?_
        · have s0 := hS.x0; have s1 := hS.x1; have s2 := hS.x2; have s3 := hS.x3; clear hS; go_simp; rfl
        simp only [Act.put, List.setIfInBounds_toArray, List.set_cons_zero, List.set_cons_succ]
        refine wpAnyH_take (i := 3) (oi := ⟨some 80, .move (.tmp 13), _, _, _, none⟩) (v := .int .i64 (m : Int)) rfl (by kernel_rfl) (by kernel_rfl) (by kernel_rfl) (fun _ _ _ h => h) (Or.inl ⟨by rfl, fun w' hS => ?_⟩) HSD.out ?_
        · clear hS; go_simp
        simp only [Act.put, List.setIfInBounds_toArray, List.set_cons_zero, List.set_cons_succ]
        refine wpAnyH_take (i := 4) (oi := ⟨some 81, .binOp .sub 3 (.const (.int .i64 1)) (.tmp 80) 3, _, _, _, none⟩) (v := .int .i64 (1 - (m : Int))) rfl (by kernel_rfl) (by kernel_rfl) (by kernel_rfl) (fun _ _ _ h => h) (Or.inl ⟨by rfl, fun w' hS => ?_⟩) HSD.out ?_
        · clear hS; go_simp; rw [IntWalk.i64_left]; exact HMI.out
        simp only [Act.put, List.setIfInBounds_toArray, List.set_cons_zero, List.set_cons_succ]
        refine wpAnyH_take (i := 5) (oi := ⟨some 82, .fieldAddr 26 (.tmp 7) 0, _, _, _, none⟩) (v := .pointer (some ⟨F, 0, none⟩)) rfl (by kernel_rfl) (by kernel_rfl) (by kernel_rfl) (fun _ _ _ h => h) (Or.inl ⟨by rfl, fun w' hS => ?_⟩) HSD.out ?_
        · clear hS; go_simp
        simp only [Act.put, List.setIfInBounds_toArray, List.set_cons_zero, List.set_cons_succ]
        refine wpAnyH_take (i := 6) (oi := ⟨some 83, .load 3 (.tmp 82), _, _, _, none⟩) (v := .int .i64 sq) rfl (by kernel_rfl) (by kernel_rfl) (by kernel_rfl) (fun _ _ _ h => h) (Or.inl ⟨by rfl, fun w' hS => ?_⟩) HSD.out ?_
        · have s := hS.s0; clear hS; go_simp
        simp only [Act.put, List.setIfInBounds_toArray, List.set_cons_zero, List.set_cons_succ]
        refine wpAnyH_take (i := 7) (oi := ⟨some 84, .fieldAddr 23 (.tmp 6) 0, _, _, _, none⟩) (v := .pointer (some ⟨H, 0, none⟩)) rfl (by kernel_rfl) (by kernel_rfl) (by kernel_rfl) (fun _ _ _ h => h) (Or.inl ⟨by rfl, fun w' hS => ?_⟩) HSD.out ?_
        · clear hS; go_simp
        simp only [Act.put, List.setIfInBounds_toArray, List.set_cons_zero, List.set_cons_succ]
        refine wpAnyH_take (i := 8) (oi := ⟨some 85, .load 3 (.tmp 84), _, _, _, none⟩) (v := .int .i64 g.wal) rfl (by kernel_rfl) (by kernel_rfl) (by kernel_rfl) (fun _ _ _ h => h) (Or.inl ⟨by rfl, fun w' hS => ?_⟩) HSD.out ?_
        · have s := hS.x0; clear hS; go_simp
        simp only [Act.put, List.setIfInBounds_toArray, List.set_cons_zero, List.set_cons_succ]
        refine wpAnyH_take (i := 9) (oi := ⟨some 86, .binOp .rem 3 (.tmp 83) (.tmp 85) 3, _, _, _, none⟩) (v := .int .i64 sl) rfl (by kernel_rfl) (by kernel_rfl) (by kernel_rfl) (fun _ _ _ h => h) (Or.inl ⟨by rfl, fun w' hS => ?_⟩) HSD.out ?_
        · clear hS; go_simp; rw [if_neg HWN.out, HTM.out]
        simp only [Act.put, List.setIfInBounds_toArray, List.set_cons_zero, List.set_cons_succ]
        refine wpAnyH_ready (rs := [10, 14]) (by kernel_rfl) (by simp) ?_
        refine AllReadyH.cons rfl (fun K hK => ?_) (AllReadyH.cons rfl (fun K hK => ?_) AllReadyH.nil)
        · go_simp
          refine (HTO.out wd (Ch.refl _ _)).mono ?_
          rintro e w5 ⟨o5, V5, ht5, rfl, hn5, hc5⟩
          obtain ⟨wz, wx, G5, hV5⟩ := varPc (optP o5) (V := V5) (by obtain ⟨A, C, e⟩ := hn5.len; exact ⟨_, _, _, e⟩) w5
          have HS5 := Lib.hid (HSD.out.gr hc5)
          have HSZ := Lib.hid (show HoldO H F g sq wz by rw [← hV5.al]; exact (HSD.out.gr hc5).gr ((Ch.refl _ w5).alloc _ _))
          have HSX := Lib.hid ((HSD.out.gr hc5).gr hV5.ch)
          have HFIN : Hid (TldO wd wx (sectR vol g (m : Int) p) vol g (1 - (m : Int)) sl G5 o5 V5) := Lib.hid ⟨ht5, hV5.cx, hn5.row.gr hV5.ch, hc5.trans hV5.ch⟩
          have HV5 := Lib.hid hV5
          clear ht5 hn5 hc5 hV5
          dsimp only
          refine hK.out _ _ HS5.out (fun _ => ?_)
          clear hK K
          try simp only [Act.put, List.setIfInBounds_toArray, List.set_cons_zero, List.set_cons_succ]
          refine wpAnyH_take (i := 11) (oi := ⟨some 76, .move (.tmp 87), _, _, _, none⟩) (v := .tuple #[.agg (pcC (optP o5) V5), .bool o5.isSome]) rfl (by kernel_rfl) (by kernel_rfl) (by kernel_rfl) (fun _ _ _ h => h) (Or.inl ⟨by rfl, fun w' hS => ?_⟩) HS5.out ?_
          · clear hS; go_simp
          try simp only [Act.put, List.setIfInBounds_toArray, List.set_cons_zero, List.set_cons_succ]
          refine wpAnyH_take (i := 12) (oi := ⟨some 88, .extract (.tmp 76) 0, _, _, _, none⟩) (v := .agg (pcC (optP o5) V5)) rfl (by kernel_rfl) (by kernel_rfl) (by kernel_rfl) (fun _ _ _ h => h) (Or.inl ⟨by rfl, fun w' hS => ?_⟩) HS5.out ?_
          · clear hS; go_simp
          try simp only [Act.put, List.setIfInBounds_toArray, List.set_cons_zero, List.set_cons_succ]
          refine wpAnyH_take (i := 13) (oi := ⟨some 89, .extract (.tmp 76) 1, _, _, _, none⟩) (v := .bool o5.isSome) rfl (by kernel_rfl) (by kernel_rfl) (by kernel_rfl) (fun _ _ _ h => h) (Or.inl ⟨by rfl, fun w' hS => ?_⟩) HS5.out ?_
          · clear hS; go_simp
          try simp only [Act.put, List.setIfInBounds_toArray, List.set_cons_zero, List.set_cons_succ]
          refine wpAnyH_ready (rs := [14]) (by kernel_rfl) (by simp) ?_
          refine AllReadyH.cons rfl (fun K hK => ?_) AllReadyH.nil
          refine step_making (o := ⟨some 19, .alloc 26, _, _, _, none⟩) wz rfl 26 rfl (pcC pn0 (.slice none 0 0)) G5 (zero_pc _) HV5.out.sz HV5.out.al ?_
          refine hK.out _ _ HSZ.out (fun _ => ?_)
          clear hK K
          try simp only [Act.put, List.setIfInBounds_toArray, List.set_cons_zero, List.set_cons_succ]
          refine wpAnyH_ready (rs := [15]) (by kernel_rfl) (by simp) ?_
          refine AllReadyH.cons rfl (fun K hK => ?_) AllReadyH.nil
          refine step_storing (o := ⟨none, .store 26 (.tmp 19) (.tmp 88), _, _, _, none⟩) wx rfl 26 (.tmp 19) (.tmp 88) rfl (.agg (pcC (optP o5) V5)) ⟨G5, 0, none⟩ rfl rfl HV5.out.st ?_
          refine hK.out _ _ HSX.out (fun _ => ?_)
          clear hK K
          try simp only [Act.put, List.setIfInBounds_toArray, List.set_cons_zero, List.set_cons_succ]
          refine wpAnyH_take (i := 16) (oi := ⟨some 20, .assign (.tmp 89), _, _, _, none⟩) (v := .bool o5.isSome) rfl (by kernel_rfl) (by kernel_rfl) (by kernel_rfl) (fun _ _ _ h => h) (Or.inl ⟨by rfl, fun w' hS => ?_⟩) HSX.out ?_
          · clear hS; go_simp
          try simp only [Act.put, List.setIfInBounds_toArray, List.set_cons_zero, List.set_cons_succ]
          refine wpAnyH_done (by kernel_rfl) ?_ _
          go_wp2_with fail
          go_meet
          exact ⟨G5, o5, V5, rfl, rfl, HFIN⟩
        · obtain ⟨wz, G5, hZ⟩ := zePc wd
          have HZZ := Lib.hid hZ
          have HSZ := Lib.hid (HSD.out.gr hZ.ch)
          clear hZ
          refine step_making (o := ⟨some 19, .alloc 26, _, _, _, none⟩) wz rfl 26 rfl (pcC pn0 (.slice none 0 0)) G5 (zero_pc _) HZZ.out.sz HZZ.out.al ?_
          refine hK.out _ _ HSZ.out (fun _ => ?_)
          clear hK K
          try simp only [Act.put, List.setIfInBounds_toArray, List.set_cons_zero, List.set_cons_succ]
          refine wpAnyH_ready (rs := [10]) (by kernel_rfl) (by simp) ?_
          refine AllReadyH.cons rfl (fun K hK => ?_) AllReadyH.nil
          go_simp
          refine (HTO.out wz HZZ.out.ch).mono ?_
          rintro e w5 ⟨o5, V5, ht5, rfl, hn5, hc5⟩
          have hx := (hc5.block G5 (blk_lt HZZ.out.cx) (fun f => f)).trans HZZ.out.cx
          obtain ⟨wx, hV5⟩ := stPc (optP o5) hx (V := V5) (by obtain ⟨A, C, e⟩ := hn5.len; exact ⟨_, _, _, e⟩)
          have hcx : Ch (fun _ => False) wd wx := (HZZ.out.ch.trans hc5).new (hV5.ch.mono fun i _ hi => by rw [hi]; exact Nat.le_of_eq HZZ.out.sz)
          have HS5 := Lib.hid (HSZ.out.gr hc5)
          have HSX := Lib.hid (HSD.out.gr hcx)
          have HFIN : Hid (TldO wd wx (sectR vol g (m : Int) p) vol g (1 - (m : Int)) sl G5 o5 V5) := Lib.hid ⟨ht5, hV5.cx, (hn5.set hV5.ch hx (by decide)).row, hcx⟩
          have HV5 := Lib.hid hV5
          clear ht5 hn5 hc5 hV5 hx hcx
          dsimp only
          refine hK.out _ _ HS5.out (fun _ => ?_)
          clear hK K
          try simp only [Act.put, List.setIfInBounds_toArray, List.set_cons_zero, List.set_cons_succ]
          refine wpAnyH_take (i := 11) (oi := ⟨some 76, .move (.tmp 87), _, _, _, none⟩) (v := .tuple #[.agg (pcC (optP o5) V5), .bool o5.isSome]) rfl (by kernel_rfl) (by kernel_rfl) (by kernel_rfl) (fun _ _ _ h => h) (Or.inl ⟨by rfl, fun w' hS => ?_⟩) HS5.out ?_
          · clear hS; go_simp
          try simp only [Act.put, List.setIfInBounds_toArray, List.set_cons_zero, List.set_cons_succ]
          refine wpAnyH_take (i := 12) (oi := ⟨some 88, .extract (.tmp 76) 0, _, _, _, none⟩) (v := .agg (pcC (optP o5) V5)) rfl (by kernel_rfl) (by kernel_rfl) (by kernel_rfl) (fun _ _ _ h => h) (Or.inl ⟨by rfl, fun w' hS => ?_⟩) HS5.out ?_
          · clear hS; go_simp
          try simp only [Act.put, List.setIfInBounds_toArray, List.set_cons_zero, List.set_cons_succ]
          refine wpAnyH_take (i := 13) (oi := ⟨some 89, .extract (.tmp 76) 1, _, _, _, none⟩) (v := .bool o5.isSome) rfl (by kernel_rfl) (by kernel_rfl) (by kernel_rfl) (fun _ _ _ h => h) (Or.inl ⟨by rfl, fun w' hS => ?_⟩) HS5.out ?_
          · clear hS; go_simp
          try simp only [Act.put, List.setIfInBounds_toArray, List.set_cons_zero, List.set_cons_succ]
          refine wpAnyH_ready (rs := [15]) (by kernel_rfl) (by simp) ?_
          refine AllReadyH.cons rfl (fun K hK => ?_) AllReadyH.nil
          refine step_storing (o := ⟨none, .store 26 (.tmp 19) (.tmp 88), _, _, _, none⟩) wx rfl 26 (.tmp 19) (.tmp 88) rfl (.agg (pcC (optP o5) V5)) ⟨G5, 0, none⟩ rfl rfl HV5.out.st ?_
          refine hK.out _ _ HSX.out (fun _ => ?_)
          clear hK K
          try simp only [Act.put, List.setIfInBounds_toArray, List.set_cons_zero, List.set_cons_succ]
          refine wpAnyH_take (i := 16) (oi := ⟨some 20, .assign (.tmp 89), _, _, _, none⟩) (v := .bool o5.isSome) rfl (by kernel_rfl) (by kernel_rfl) (by kernel_rfl) (fun _ _ _ h => h) (Or.inl ⟨by rfl, fun w' hS => ?_⟩) HSX.out ?_
          · clear hS; go_simp
          try simp only [Act.put, List.setIfInBounds_toArray, List.set_cons_zero, List.set_cons_succ]
          refine wpAnyH_done (by kernel_rfl) ?_ _
          go_wp2_with fail
          go_meet
          exact ⟨G5, o5, V5, rfl, rfl, HFIN⟩
      obtain ⟨G5, o5, V5, rfl, rfl, HFI⟩ := hcut
      obtain ⟨wx, hwx⟩ : ∃ wx, wx = wc := ⟨_, rfl⟩
      rw [← hwx] at HFI ⊢
      clear hwx
      have ho5 := one_tells HRM.out HBT.out HFI.out.tell
      rw [if_neg (fun q => absurd q.2.1 (by omega))] at ho5
      subst ho5
      rw [show (none : Option Pn).isSome = false from rfl]
      have HROW := Lib.hid (HRD.out.gr HFI.out.ch)
      have HCS := Lib.hid (HCD.out.trans HFI.out.ch)
      obtain ⟨x0, x1, x2, x3⟩ := HR.out.x.gr (HC4b.out.trans HCS.out)
      clear HTO HCD HRD HSD HWD HFI
      have HTO := Lib.hid (rtold_any A1 256 C1 (sectR vol g (m : Int) p) vol g (m : Int) slot wx HVO.out.1 HROW.out)
      go_wp2_with fail
      refine HTO.out.mono ?_
      rintro e w7 ⟨o7, V7, ht7, rfl, hn7, hc7⟩
      obtain ⟨A7, C7, e7, _⟩ := id hn7.row
      subst e7
      have ho7 := one_tells HRM.out HBT.out ht7
      obtain ⟨b7, hb7⟩ : ∃ b7, b7 = decide (slot = sl) := ⟨_, rfl⟩
      have hb7' : o7.isSome = b7 := by
        rw [ho7, hb7, HSL.out]
        by_cases q : slot = p.seq % g.wal
        · rw [if_pos ⟨rfl, rfl, q⟩, decide_eq_true q]; rfl
        · rw [if_neg (fun h => q h.2.2), decide_eq_false q]; rfl
      rw [hb7']
      obtain ⟨q7, hq7⟩ : ∃ q7, q7 = optP o7 := ⟨_, rfl⟩
      rw [← hq7]
      obtain ⟨n7, hn7e⟩ : ∃ n7, n7 = q7.B.length := ⟨_, rfl⟩
      rw [← hn7e]
      obtain ⟨wz7, ws, G7, hV7⟩ := varPc q7 (V := .slice A7 n7 C7) ⟨_, _, _, rfl⟩ w7
      have HV7 := Lib.hid hV7
      have HB7 := Lib.hid hb7
      have HROW := Lib.hid ((HROW.out.gr hc7).gr hV7.ch)
      have HCS := Lib.hid ((HCS.out.trans hc7).trans hV7.ch)
      clear ht7 hn7 hc7 ho7 hb7 hb7' hq7 hn7e hV7 x0 x1 x2 x3 HTO
      obtain ⟨wd, hwd⟩ : ∃ wd, wd = ws.drew := ⟨_, rfl⟩
      have hcd : Ch (fun _ => False) ws wd := by rw [hwd]; exact (Ch.refl _ ws).drew
      have HWD := Lib.hid hwd
      have HSD := Lib.hid (HB0.out.gr (HCS.out.trans hcd))
      have HTO : Hid (∀ wy, Ch (fun _ => False) wd wy → Calls Tryz.prog 15 #[.slice A1 256 C1, .int .i64 other, .agg (geC g), .int .i64 (m : Int), .int .i64 sl] wy (TellPostR 256 (sectR vol g (m : Int) p) other g (m : Int) sl wy)) := Lib.hid fun wy k => rtold_any A1 256 C1 (sectR vol g (m : Int) p) other g (m : Int) sl wy HVO.out.2 ((HROW.out.gr hcd).gr k)
      have HCD := Lib.hid (HCS.out.trans hcd)
      have HRD := Lib.hid (HROW.out.gr hcd)
      clear hwd hcd HROW HCS
      go_upto_region 13 with (first
        | ((with_reducible refine wpList_isOp (.alloc 26) rfl ?_); refine wpList_making _ wz7 rfl 26 rfl (pcC pn0 (.slice none 0 0)) G7 (zero_pc _) (by exact HV7.out.sz) (by exact HV7.out.al) ?_)
        | ((with_reducible refine wpList_isOp (.store 26 (.tmp 21) (.tmp 97)) rfl ?_); refine wpList_storing _ ws rfl 26 (.tmp 21) (.tmp 97) rfl (.agg (pcC q7 (.slice A7 n7 C7))) ⟨G7, 0, none⟩ rfl rfl (by exact HV7.out.st) ?_)
        | fail)
      go_cut [23, 24] (fun t bv wx => ∃ G5 o5 V5, t = .pointer (some ⟨G5, 0, none⟩) ∧ bv = .bool o5.isSome ∧ Hid (TldO wd wx (sectR vol g (m : Int) p) other g (m : Int) sl G5 o5 V5))
      case first =>
        refine wp_region_held (S := (HoldO H F g sq)) (by kernel_rfl) ?_
        change wpAnyH _ _ _ _ _ _ _ _ (World.drew _)
        rw [← HWD.out]
        refine wpAnyH_take (i := 0) (oi := ⟨some 100, .move (.tmp 14), _, _, _, none⟩) (v := .slice A1 256 C1) rfl (by kernel_rfl) (by kernel_rfl) (by kernel_rfl) (fun _ _ _ h => h) (Or.inl ⟨by rfl, fun w' hS => ?_⟩) HSD.out ?_
        · clear hS; go_simp
        simp only [Act.put, List.setIfInBounds_toArray, List.set_cons_zero, List.set_cons_succ]
        refine wpAnyH_take (i := 1) (oi := ⟨some 101, .move (.tmp 4), _, _, _, none⟩) (v := .int .i64 other) rfl (by kernel_rfl) (by kernel_rfl) (by kernel_rfl) (fun _ _ _ h => h) (Or.inl ⟨by rfl, fun w' hS => ?_⟩) HSD.out ?_
        · clear hS; go_simp
        simp only [Act.put, List.setIfInBounds_toArray, List.set_cons_zero, List.set_cons_succ]
        refine wpAnyH_take (i := 2) (oi := ⟨some 102, .load 23 (.tmp 6), _, _, _, none⟩) (v := .agg (geC g)) rfl (by kernel_rfl) (by kernel_rfl) (by kernel_rfl) (fun _ _ _ h => h) (Or.inl ⟨by rfl, fun w' hS => ?_⟩) HSD.out ?_
        · have s0 := hS.x0; have s1 := hS.x1; have s2 := hS.x2; have s3 := hS.x3; clear hS; go_simp; rfl
        simp only [Act.put, List.setIfInBounds_toArray, List.set_cons_zero, List.set_cons_succ]
        refine wpAnyH_take (i := 3) (oi := ⟨some 103, .move (.tmp 13), _, _, _, none⟩) (v := .int .i64 (m : Int)) rfl (by kernel_rfl) (by kernel_rfl) (by kernel_rfl) (fun _ _ _ h => h) (Or.inl ⟨by rfl, fun w' hS => ?_⟩) HSD.out ?_
        · clear hS; go_simp
        simp only [Act.put, List.setIfInBounds_toArray, List.set_cons_zero, List.set_cons_succ]
        refine wpAnyH_take (i := 4) (oi := ⟨some 104, .fieldAddr 26 (.tmp 7) 0, _, _, _, none⟩) (v := .pointer (some ⟨F, 0, none⟩)) rfl (by kernel_rfl) (by kernel_rfl) (by kernel_rfl) (fun _ _ _ h => h) (Or.inl ⟨by rfl, fun w' hS => ?_⟩) HSD.out ?_
        · clear hS; go_simp
        simp only [Act.put, List.setIfInBounds_toArray, List.set_cons_zero, List.set_cons_succ]
        refine wpAnyH_take (i := 5) (oi := ⟨some 105, .load 3 (.tmp 104), _, _, _, none⟩) (v := .int .i64 sq) rfl (by kernel_rfl) (by kernel_rfl) (by kernel_rfl) (fun _ _ _ h => h) (Or.inl ⟨by rfl, fun w' hS => ?_⟩) HSD.out ?_
        · have s := hS.s0; clear hS; go_simp
        simp only [Act.put, List.setIfInBounds_toArray, List.set_cons_zero, List.set_cons_succ]
        refine wpAnyH_take (i := 6) (oi := ⟨some 106, .fieldAddr 23 (.tmp 6) 0, _, _, _, none⟩) (v := .pointer (some ⟨H, 0, none⟩)) rfl (by kernel_rfl) (by kernel_rfl) (by kernel_rfl) (fun _ _ _ h => h) (Or.inl ⟨by rfl, fun w' hS => ?_⟩) HSD.out ?_
        · clear hS; go_simp
        simp only [Act.put, List.setIfInBounds_toArray, List.set_cons_zero, List.set_cons_succ]
        refine wpAnyH_take (i := 7) (oi := ⟨some 107, .load 3 (.tmp 106), _, _, _, none⟩) (v := .int .i64 g.wal) rfl (by kernel_rfl) (by kernel_rfl) (by kernel_rfl) (fun _ _ _ h => h) (Or.inl ⟨by rfl, fun w' hS => ?_⟩) HSD.out ?_
        · have s := hS.x0; clear hS; go_simp
        simp only [Act.put, List.setIfInBounds_toArray, List.set_cons_zero, List.set_cons_succ]
        refine wpAnyH_take (i := 8) (oi := ⟨some 108, .binOp .rem 3 (.tmp 105) (.tmp 107) 3, _, _, _, none⟩) (v := .int .i64 sl) rfl (by kernel_rfl) (by kernel_rfl) (by kernel_rfl) (fun _ _ _ h => h) (Or.inl ⟨by rfl, fun w' hS => ?_⟩) HSD.out ?_
        · clear hS; go_simp; rw [if_neg HWN.out, HTM.out]
        simp only [Act.put, List.setIfInBounds_toArray, List.set_cons_zero, List.set_cons_succ]
        refine wpAnyH_ready (rs := [9, 13]) (by kernel_rfl) (by simp) ?_
        refine AllReadyH.cons rfl (fun K hK => ?_) (AllReadyH.cons rfl (fun K hK => ?_) AllReadyH.nil)
        · go_simp
          refine (HTO.out wd (Ch.refl _ _)).mono ?_
          rintro e w5 ⟨o5, V5, ht5, rfl, hn5, hc5⟩
          obtain ⟨wz, wx, G5, hV5⟩ := varPc (optP o5) (V := V5) (by obtain ⟨A, C, e⟩ := hn5.len; exact ⟨_, _, _, e⟩) w5
          have HS5 := Lib.hid (HSD.out.gr hc5)
          have HSZ := Lib.hid (show HoldO H F g sq wz by rw [← hV5.al]; exact (HSD.out.gr hc5).gr ((Ch.refl _ w5).alloc _ _))
          have HSX := Lib.hid ((HSD.out.gr hc5).gr hV5.ch)
          have HFIN : Hid (TldO wd wx (sectR vol g (m : Int) p) other g (m : Int) sl G5 o5 V5) := Lib.hid ⟨ht5, hV5.cx, hn5.row.gr hV5.ch, hc5.trans hV5.ch⟩
          have HV5 := Lib.hid hV5
          clear ht5 hn5 hc5 hV5
          dsimp only
          refine hK.out _ _ HS5.out (fun _ => ?_)
          clear hK K
          try simp only [Act.put, List.setIfInBounds_toArray, List.set_cons_zero, List.set_cons_succ]
          refine wpAnyH_take (i := 10) (oi := ⟨some 99, .move (.tmp 109), _, _, _, none⟩) (v := .tuple #[.agg (pcC (optP o5) V5), .bool o5.isSome]) rfl (by kernel_rfl) (by kernel_rfl) (by kernel_rfl) (fun _ _ _ h => h) (Or.inl ⟨by rfl, fun w' hS => ?_⟩) HS5.out ?_
          · clear hS; go_simp
          try simp only [Act.put, List.setIfInBounds_toArray, List.set_cons_zero, List.set_cons_succ]
          refine wpAnyH_take (i := 11) (oi := ⟨some 110, .extract (.tmp 99) 0, _, _, _, none⟩) (v := .agg (pcC (optP o5) V5)) rfl (by kernel_rfl) (by kernel_rfl) (by kernel_rfl) (fun _ _ _ h => h) (Or.inl ⟨by rfl, fun w' hS => ?_⟩) HS5.out ?_
          · clear hS; go_simp
          try simp only [Act.put, List.setIfInBounds_toArray, List.set_cons_zero, List.set_cons_succ]
          refine wpAnyH_take (i := 12) (oi := ⟨some 111, .extract (.tmp 99) 1, _, _, _, none⟩) (v := .bool o5.isSome) rfl (by kernel_rfl) (by kernel_rfl) (by kernel_rfl) (fun _ _ _ h => h) (Or.inl ⟨by rfl, fun w' hS => ?_⟩) HS5.out ?_
          · clear hS; go_simp
          try simp only [Act.put, List.setIfInBounds_toArray, List.set_cons_zero, List.set_cons_succ]
          refine wpAnyH_ready (rs := [13]) (by kernel_rfl) (by simp) ?_
          refine AllReadyH.cons rfl (fun K hK => ?_) AllReadyH.nil
          refine step_making (o := ⟨some 23, .alloc 26, _, _, _, none⟩) wz rfl 26 rfl (pcC pn0 (.slice none 0 0)) G5 (zero_pc _) HV5.out.sz HV5.out.al ?_
          refine hK.out _ _ HSZ.out (fun _ => ?_)
          clear hK K
          try simp only [Act.put, List.setIfInBounds_toArray, List.set_cons_zero, List.set_cons_succ]
          refine wpAnyH_ready (rs := [14]) (by kernel_rfl) (by simp) ?_
          refine AllReadyH.cons rfl (fun K hK => ?_) AllReadyH.nil
          refine step_storing (o := ⟨none, .store 26 (.tmp 23) (.tmp 110), _, _, _, none⟩) wx rfl 26 (.tmp 23) (.tmp 110) rfl (.agg (pcC (optP o5) V5)) ⟨G5, 0, none⟩ rfl rfl HV5.out.st ?_
          refine hK.out _ _ HSX.out (fun _ => ?_)
          clear hK K
          try simp only [Act.put, List.setIfInBounds_toArray, List.set_cons_zero, List.set_cons_succ]
          refine wpAnyH_take (i := 15) (oi := ⟨some 24, .assign (.tmp 111), _, _, _, none⟩) (v := .bool o5.isSome) rfl (by kernel_rfl) (by kernel_rfl) (by kernel_rfl) (fun _ _ _ h => h) (Or.inl ⟨by rfl, fun w' hS => ?_⟩) HSX.out ?_
          · clear hS; go_simp
          try simp only [Act.put, List.setIfInBounds_toArray, List.set_cons_zero, List.set_cons_succ]
          refine wpAnyH_done (by kernel_rfl) ?_ _
          go_wp2_with fail
          go_meet
          exact ⟨G5, o5, V5, rfl, rfl, HFIN⟩
        · obtain ⟨wz, G5, hZ⟩ := zePc wd
          have HZZ := Lib.hid hZ
          have HSZ := Lib.hid (HSD.out.gr hZ.ch)
          clear hZ
          refine step_making (o := ⟨some 23, .alloc 26, _, _, _, none⟩) wz rfl 26 rfl (pcC pn0 (.slice none 0 0)) G5 (zero_pc _) HZZ.out.sz HZZ.out.al ?_
          refine hK.out _ _ HSZ.out (fun _ => ?_)
          clear hK K
          try simp only [Act.put, List.setIfInBounds_toArray, List.set_cons_zero, List.set_cons_succ]
          refine wpAnyH_ready (rs := [9]) (by kernel_rfl) (by simp) ?_
          refine AllReadyH.cons rfl (fun K hK => ?_) AllReadyH.nil
          go_simp
          refine (HTO.out wz HZZ.out.ch).mono ?_
          rintro e w5 ⟨o5, V5, ht5, rfl, hn5, hc5⟩
          have hx := (hc5.block G5 (blk_lt HZZ.out.cx) (fun f => f)).trans HZZ.out.cx
          obtain ⟨wx, hV5⟩ := stPc (optP o5) hx (V := V5) (by obtain ⟨A, C, e⟩ := hn5.len; exact ⟨_, _, _, e⟩)
          have hcx : Ch (fun _ => False) wd wx := (HZZ.out.ch.trans hc5).new (hV5.ch.mono fun i _ hi => by rw [hi]; exact Nat.le_of_eq HZZ.out.sz)
          have HS5 := Lib.hid (HSZ.out.gr hc5)
          have HSX := Lib.hid (HSD.out.gr hcx)
          have HFIN : Hid (TldO wd wx (sectR vol g (m : Int) p) other g (m : Int) sl G5 o5 V5) := Lib.hid ⟨ht5, hV5.cx, (hn5.set hV5.ch hx (by decide)).row, hcx⟩
          have HV5 := Lib.hid hV5
          clear ht5 hn5 hc5 hV5 hx hcx
          dsimp only
          refine hK.out _ _ HS5.out (fun _ => ?_)
          clear hK K
          try simp only [Act.put, List.setIfInBounds_toArray, List.set_cons_zero, List.set_cons_succ]
          refine wpAnyH_take (i := 10) (oi := ⟨some 99, .move (.tmp 109), _, _, _, none⟩) (v := .tuple #[.agg (pcC (optP o5) V5), .bool o5.isSome]) rfl (by kernel_rfl) (by kernel_rfl) (by kernel_rfl) (fun _ _ _ h => h) (Or.inl ⟨by rfl, fun w' hS => ?_⟩) HS5.out ?_
          · clear hS; go_simp
          try simp only [Act.put, List.setIfInBounds_toArray, List.set_cons_zero, List.set_cons_succ]
          refine wpAnyH_take (i := 11) (oi := ⟨some 110, .extract (.tmp 99) 0, _, _, _, none⟩) (v := .agg (pcC (optP o5) V5)) rfl (by kernel_rfl) (by kernel_rfl) (by kernel_rfl) (fun _ _ _ h => h) (Or.inl ⟨by rfl, fun w' hS => ?_⟩) HS5.out ?_
          · clear hS; go_simp
          try simp only [Act.put, List.setIfInBounds_toArray, List.set_cons_zero, List.set_cons_succ]
          refine wpAnyH_take (i := 12) (oi := ⟨some 111, .extract (.tmp 99) 1, _, _, _, none⟩) (v := .bool o5.isSome) rfl (by kernel_rfl) (by kernel_rfl) (by kernel_rfl) (fun _ _ _ h => h) (Or.inl ⟨by rfl, fun w' hS => ?_⟩) HS5.out ?_
          · clear hS; go_simp
          try simp only [Act.put, List.setIfInBounds_toArray, List.set_cons_zero, List.set_cons_succ]
          refine wpAnyH_ready (rs := [14]) (by kernel_rfl) (by simp) ?_
          refine AllReadyH.cons rfl (fun K hK => ?_) AllReadyH.nil
          refine step_storing (o := ⟨none, .store 26 (.tmp 23) (.tmp 110), _, _, _, none⟩) wx rfl 26 (.tmp 23) (.tmp 110) rfl (.agg (pcC (optP o5) V5)) ⟨G5, 0, none⟩ rfl rfl HV5.out.st ?_
          refine hK.out _ _ HSX.out (fun _ => ?_)
          clear hK K
          try simp only [Act.put, List.setIfInBounds_toArray, List.set_cons_zero, List.set_cons_succ]
          refine wpAnyH_take (i := 15) (oi := ⟨some 24, .assign (.tmp 111), _, _, _, none⟩) (v := .bool o5.isSome) rfl (by kernel_rfl) (by kernel_rfl) (by kernel_rfl) (fun _ _ _ h => h) (Or.inl ⟨by rfl, fun w' hS => ?_⟩) HSX.out ?_
          · clear hS; go_simp
          try simp only [Act.put, List.setIfInBounds_toArray, List.set_cons_zero, List.set_cons_succ]
          refine wpAnyH_done (by kernel_rfl) ?_ _
          go_wp2_with fail
          go_meet
          exact ⟨G5, o5, V5, rfl, rfl, HFIN⟩
      obtain ⟨G5, o5, V5, rfl, rfl, HFI⟩ := hcut
      obtain ⟨wx, hwx⟩ : ∃ wx, wx = wc := ⟨_, rfl⟩
      rw [← hwx] at HFI ⊢
      clear hwx
      have ho5 := one_tells HRM.out HBT.out HFI.out.tell
      have hb5 : o5.isSome = decide (other = vol) := by
        rw [ho5]
        by_cases q : other = vol
        · rw [if_pos ⟨q, rfl, HSL.out⟩, decide_eq_true q]; rfl
        · rw [if_neg (fun h => q h.1), decide_eq_false q]; rfl
      rw [hb5]
      have HCS := Lib.hid (HCD.out.trans HFI.out.ch)
      clear ho5 hb5 HTO HCD HRD HSD HWD HFI
      obtain ⟨x0, x1, x2, x3⟩ := HR.out.x.gr (HC4b.out.trans HCS.out)
      have y0 := (pc_cells ((HCS.out.block F (blk_lt HF4.out) (fun f => f)).trans HF4.out)).1.1
      have hwn := HWN.out
      have hsq : p.seq = sq := HSQ.out
      rw [hsq] at y0
      have htm := HTM.out
      clear hsq
      by_cases hs : slot = sl
      · obtain rfl : true = b7 := by rw [HB7.out, decide_eq_true hs]
        by_cases hov : other = vol
        · go_wp2
          go_roundw
          case rel => exact ⟨m + 1, HLT.out, by go_num, Lib.hid HCS.out⟩
          case measure => have := HLT.out; simp [intOf]; omega
        · have hovb : (other == vol) = false := beq_eq_false_iff_ne.2 hov
          go_wp2
          go_roundw
          case rel => exact ⟨m + 1, HLT.out, by go_num, Lib.hid HCS.out⟩
          case measure => have := HLT.out; simp [intOf]; omega
      · obtain rfl : false = b7 := by rw [HB7.out, decide_eq_false hs]
        have hsb : (slot == sl) = false := beq_eq_false_iff_ne.2 hs
        by_cases hov : other = vol
        · go_wp2
          go_roundw
          case rel => exact ⟨m + 1, HLT.out, by go_num, Lib.hid HCS.out⟩
          case measure => have := HLT.out; simp [intOf]; omega
        · have hovb : (other == vol) = false := beq_eq_false_iff_ne.2 hov
          go_wp2
          go_roundw
          case rel => exact ⟨m + 1, HLT.out, by go_num, Lib.hid HCS.out⟩
          case measure => have := HLT.out; simp [intOf]; omega
    · obtain rfl : m = 2 := by omega
      have HCE := Lib.hid (HC4.out.trans HCW.out)
      go_wp2
      go_ret
      exact ⟨rfl, HCE.out⟩
#print axioms ringOne_of
end Go.Proofs.YteleknojohnlbaaGreat
