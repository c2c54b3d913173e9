/-
  (*disk.Disk).drop, lose, blank, faults, walked. A fault, and bools, that are handed in, opened. (*disk.Disk).Write, walked.
-/
import Derived.Test.YteleknojohnlbaaGreatMc5
import Derived.Test.YteleknojohnlbaaGreatMc1
import Derived.Deep.Slices
import Derived.Deep.Fields
import Derived.Deep.Grids
import Derived.ChangeSame
import Derived.Test.YteleknojohnlbaaGreatMc4
import Derived.Deep.WholeRow
import Derived.OrdersHeld
import Derived.BigRegion
namespace Go.Proofs.YteleknojohnlbaaGreat
open Go.RowKit
set_option linter.unusedVariables false
set_option maxRecDepth 100000
structure Fa where
  kind : Int
  pl : Int
  off : Int
  n : Int
  to : Int
  k0 : Nat
  k1 : Nat
  k2 : Nat
  k3 : Nat
def faC (f : Fa) : Array Value := #[.int .i64 f.kind, .int .i64 f.pl, .int .i64 f.off, .int .i64 f.n, .int .i64 f.to, .int .u8 (f.k0 : Int), .int .u8 (f.k1 : Int), .int .u8 (f.k2 : Int), .int .u8 (f.k3 : Int)]
def I64 (x : Int) : Prop := -9223372036854775808 ≤ x ∧ x ≤ 9223372036854775807
structure FaOk (f : Fa) : Prop where
  kind : I64 f.kind
  pl : I64 f.pl
  off : I64 f.off
  n : I64 f.n
  to : I64 f.to
  k0 : f.k0 < 256
  k1 : f.k1 < 256
  k2 : f.k2 < 256
  k3 : f.k3 < 256
structure FaR (w w1 : World) (H : Nat) (f : Fa) : Prop where
  al : w.alloc (.cells (faC f) 48) = w1
  sz : w.heap.size = H
  cx : w1.heap[H]? = some (.cells (faC f) 48 (0, 0))
  ch : Ch (fun _ => False) w w1
theorem faR (w : World) (f : Fa) : ∃ w1 H, FaR w w1 H f := ⟨_, _, rfl, rfl, heap_alloc_new w _, (Ch.refl _ w).alloc _ _⟩
theorem FaR.at {w w1 : World} {H : Nat} {f : Fa} (h : FaR w w1 H f) (i : Nat) : w1.cell? ⟨H, i, none⟩ = (faC f)[i]? := blk_cell h.cx
def dropE (f : Fa) : Int := if f.n < 1 ∨ 1000 < f.n then 1 else 0
def dropD (d : Dev) (f : Fa) : Dev := if f.n < 1 ∨ 1000 < f.n then d else { d with drops := up d.drops f.pl.toNat (d.drops f.pl.toNat + f.n.toNat) }
set_option maxHeartbeats 800000 in
set_option maxRecDepth 100000 in
theorem drop_any (base : Nat) (p : Ph) (d : Dev) (f : Fa) (w : World) (h : DevIs base w p d) (hf : FaOk f) (hp : 0 ≤ f.pl ∧ f.pl < d.n) (hdr : ∀ a, d.drops a ≤ 1152921504606846976) :
    Calls Tryz.prog 106 #[.pointer (some ⟨p.B, 0, none⟩), .agg (faC f)] w (DPost base p d (dropD d f) (.int .i64 (dropE f)) w) := by
  obtain ⟨w1, H, hR⟩ := faR w f
  obtain ⟨k, hk⟩ : ∃ k : Nat, f.pl = (k : Int) := ⟨f.pl.toNat, by omega⟩
  have hkn : k < d.n := by omega
  have h1 : DevIs base w1 p d := h.gr hR.ch
  have x1 : w1.cell? ⟨H, 1, none⟩ = some (.int .i64 (k : Int)) := by rw [← hk]; exact hR.at 1
  have x3 : w1.cell? ⟨H, 3, none⟩ = some (.int .i64 f.n) := hR.at 3
  have c0 : w1.cell? ⟨p.B, 0, none⟩ = some (.slice (some ⟨p.G, 0, none⟩) d.n p.c) := h1.cellB 0
  have cd : w1.cell? ⟨p.G, k * 259 + 257, none⟩ = some (.int .i64 (d.drops k : Int)) := h1.cellG hkn (by omega : 257 < 259)
  have fd := h1.frG (k * 259 + 257)
  have i1 : (0 : Int) ≤ (k : Int) := Int.natCast_nonneg _
  have i2 : (k : Int) < (d.n : Int) := by omega
  have HR := Lib.hid hR
  have hdk := hdr k
  have hn := hf.n
  unfold I64 at hn
  by_cases hq : f.n < 1 ∨ 1000 < f.n
  · have hS : dropE f = 1 ∧ dropD d f = d := by unfold dropE dropD; rw [if_pos hq, if_pos hq]; exact ⟨rfl, rfl⟩
    rw [hS.1, hS.2]
    have HP := Lib.hid (DPost.turned (base := base) (r := .int .i64 1) h1 rfl (hR.ch.mono fun _ _ f => f.elim) (w := w))
    obtain ⟨B, G, V, m, cG⟩ := p
    clear h h1 hR hk hS hf hp hdr
    by_cases hq1 : f.n < 1
    · clear hq
      go_enter Tryz.func106, Tryz.ntmps106
      go_wp2_with ((with_reducible refine wpList_same ?_); refine wpList_boxing _ w1 rfl 48 (.tmp 1) rfl (faC f) H rfl (by exact HR.out.sz) (by exact HR.out.al) ?_)
      go_ret
      exact HP.out
    · have hq2 : 1000 < f.n := by omega
      clear hq
      go_enter Tryz.func106, Tryz.ntmps106
      go_wp2_with ((with_reducible refine wpList_same ?_); refine wpList_boxing _ w1 rfl 48 (.tmp 1) rfl (faC f) H rfl (by exact HR.out.sz) (by exact HR.out.al) ?_)
      go_ret
      exact HP.out
  · have hS : dropE f = 0 ∧ dropD d f = { d with drops := up d.drops k (d.drops k + f.n.toNat) } := by unfold dropE dropD; rw [if_neg hq, if_neg hq, hk, Int.toNat_natCast]; exact ⟨rfl, rfl⟩
    rw [hS.1, hS.2]
    have hx : ((d.drops k + f.n.toNat : Nat) : Int) = (d.drops k : Int) + f.n := by omega
    have HD : Hid (∀ n, DPost base p d { d with drops := up d.drops k (d.drops k + f.n.toNat) } (.int .i64 0) w (.returned (.int .i64 0)) ((w1.drewN n).setCell ⟨p.G, k * 259 + 257, none⟩ (.int .i64 ((d.drops k : Int) + f.n)))) := fun n => by
      rw [← hx]
      exact DPost.turned ((h1.gr ((Ch.refl _ w1).drewN n)).setDrops hkn _) rfl (((hR.ch.drewN n).mono fun _ _ f => f.elim).trans (chGF (chG _ p _ _)))
    have HD1 := Lib.hid (HD.out 1)
    obtain ⟨B, G, V, m, cG⟩ := p
    clear h h1 hR hk hS hf hp hdr hx HD
    have hq1 : ¬ f.n < 1 := by omega
    have hq2 : ¬ 1000 < f.n := by omega
    clear hq
    go_enter Tryz.func106, Tryz.ntmps106
    go_wp2_with ((with_reducible refine wpList_same ?_); refine wpList_boxing _ w1 rfl 48 (.tmp 1) rfl (faC f) H rfl (by exact HR.out.sz) (by exact HR.out.al) ?_)
    go_region
    all_goals (go_wp2; go_ret; exact HD1.out)
def loseD (d : Dev) (k : Nat) : Dev := { settleD d k with lost := up (settleD d k).lost k true }
set_option maxHeartbeats 800000 in
set_option maxRecDepth 100000 in
theorem lose_any (base : Nat) (p : Ph) (d : Dev) (f : Fa) (w : World) (h : DevIs base w p d) (hW : d.W.length ≤ 1048576) (hp : 0 ≤ f.pl ∧ f.pl < d.n) :
    Calls Tryz.prog 105 #[.pointer (some ⟨p.B, 0, none⟩), .agg (faC f)] w (DPost base p d (loseD d f.pl.toNat) (.int .i64 0) w) := by
  obtain ⟨w1, H, hR⟩ := faR w f
  obtain ⟨k, hk⟩ : ∃ k : Nat, f.pl = (k : Int) := ⟨f.pl.toNat, by omega⟩
  have hkn : k < d.n := by omega
  have h1 : DevIs base w1 p d := h.gr hR.ch
  have x1 : w1.cell? ⟨H, 1, none⟩ = some (.int .i64 (k : Int)) := by rw [← hk]; exact hR.at 1
  rw [show f.pl.toNat = k by omega]
  have HT := Lib.hid (settle_any base p d k w1 h1 hW)
  have i1 : (0 : Int) ≤ (k : Int) := Int.natCast_nonneg _
  have HR := Lib.hid hR
  have HX := Lib.hid (show ¬ Foot p d H from fun q => by have := (h.foot q).2; have := hR.sz; omega)
  have HK := Lib.hid hkn
  clear h h1 hp hW
  obtain ⟨B, G, V, m, cG⟩ := p
  go_enter Tryz.func105, Tryz.ntmps105
  go_wp2_with (first
    | ((with_reducible refine wpList_same ?_); refine wpList_boxing _ w1 rfl 48 (.tmp 1) rfl (faC f) H rfl (by exact HR.out.sz) (by exact HR.out.al) ?_)
    | (go_at_call 126; refine HT.out.mono ?_; rintro e w2 ⟨rfl, p2, hp2, h2, hf2, hc2⟩))
  have hn2 : (settleD d k).n = d.n := finAll_n _ _
  have x2 : w2.cell? ⟨H, 1, none⟩ = some (.int .i64 (k : Int)) := hc2.cell x1 HX.out
  have c0 : w2.cell? ⟨B, 0, none⟩ = some (.slice (some ⟨p2.G, 0, none⟩) (settleD d k).n p2.c) := by have := h2.cellB 0; rw [hp2] at this; exact this
  rw [hn2] at c0
  have cl : w2.cell? ⟨p2.G, k * 259 + 256, none⟩ = some (.bool ((settleD d k).lost k)) := h2.cellG (by rw [hn2]; exact HK.out) (by omega : 256 < 259)
  have fl := h2.frG (k * 259 + 256)
  have i2 : (k : Int) < (d.n : Int) := by have := HK.out; omega
  have HD1 := Lib.hid (show DPost base ⟨B, G, V, m, cG⟩ d (loseD d k) (.int .i64 0) w (.returned (.int .i64 0)) ((w2.drewN 1).setCell ⟨p2.G, k * 259 + 256, none⟩ (.bool true)) from
    ⟨rfl, p2, hp2, (h2.gr ((Ch.refl _ w2).drewN 1)).setLost (by rw [hn2]; exact HK.out) true, fun i hi => by
      rcases hf2 i hi with q | q
      · exact Or.inl q
      · exact Or.inr (Nat.le_trans HR.out.ch.size q), by
      have k1 : Ch (Foot ⟨B, G, V, m, cG⟩ d) w w2 := (HR.out.ch.mono fun _ _ f => f.elim).trans hc2
      have k2 : Ch (Foot ⟨B, G, V, m, cG⟩ d) w (w2.drewN 1) := k1.drewN 1
      refine k2.setCell (p := ⟨p2.G, k * 259 + 256, none⟩) ?_ _
      rcases hf2 p2.G (Or.inr (Or.inl rfl)) with q | q
      · exact Or.inl q
      · exact Or.inr (Nat.le_trans HR.out.ch.size q)⟩)
  obtain ⟨G2, hG2⟩ : ∃ G2, G2 = p2.G := ⟨_, rfl⟩
  rw [← hG2] at c0 cl fl HD1
  clear h2 hf2 hc2 hp2 hR x1 hn2 hG2
  go_region
  all_goals (go_wp2; go_ret; exact HD1.out)
end Go.Proofs.YteleknojohnlbaaGreat
namespace Go.Proofs.YteleknojohnlbaaGreat
open Go.ChangeShapes Go.WideShapes Go.ChangeAt Go.RowKit Go.Deep
set_option linter.unusedVariables false
set_option maxRecDepth 100000
theorem cellsL : Tryz.prog.cellsOf 4 = 1 := by kernel_rfl
theorem bools_of {H : Type} {enc : TypeId × Value → H} {W : World} {v : Value} {x : DataW H × List MemPlace} {fuel : Nat} (h : DataW.trod enc Tryz.prog W 0 (fun _ => true) true fuel /-t-/63 [v] = some x) : ∃ n q, RowQ W v n q := by
  rcases open_bools Tryz.underlying63 Tryz.underlying4 cellsL h with ⟨hcs, _⟩ | ⟨a, len, cap, B, hcs, _, hl, hm, _, hc⟩
  · simp at hcs
    exact ⟨0, fun _ => false, none, 0, hcs, by omega, fun h => absurd h (Nat.lt_irrefl 0)⟩
  · simp at hcs
    refine ⟨len, B, some a, cap, hcs, by unfold maxLen at hm; omega, fun h0 => ?_⟩
    obtain ⟨b, o, rfl⟩ := addr_none (hc 0 (by omega))
    exact ⟨b, o, rfl, fun c hcl => by have := hc c (by omega); rwa [add_pl] at this⟩
theorem open_bools_arg {H : Type} {enc : TypeId × Value → H} {W : World} {v : Value} {d : DataW H} {p : List MemPlace} (hv : ∃ a len cap, v = .slice a len cap) (h : DataW.Trod enc Tryz.prog W 0 (fun _ => true) true /-t-/63 v d p) : ∃ n q, RowQ W v n q := by
  obtain ⟨a0, len, cap, rfl⟩ := hv
  obtain ⟨fuel, hf⟩ := h
  exact bools_of hf
theorem RowQ.gr {w w' : World} {v : Value} {m : Nat} {q : Nat → Bool} (h : RowQ w v m q) (k : Ch (fun _ => False) w w') : RowQ w' v m q := by
  obtain ⟨A, C, h1, h2, h3⟩ := h
  refine ⟨A, C, h1, h2, fun hm => ?_⟩
  obtain ⟨b, o, hA, hc⟩ := h3 hm
  exact ⟨b, o, hA, fun c hcm => k.cell (hc c hcm) (fun f => f)⟩
end Go.Proofs.YteleknojohnlbaaGreat
namespace Go.Proofs.YteleknojohnlbaaGreat
open Go.RowKit
set_option linter.unusedVariables false
set_option maxRecDepth 100000
def wr1 (d : Dev) : Dev := { diesD d with ops := d.ops + 1 }
def writeE (d : Dev) (a : Int) (n : Nat) : Int := if openE d a = 0 then (if n = 256 then (if diesB d then 21 else 0) else 1) else openE d a
def writeD (d : Dev) (a : Int) (n : Nat) (z : Nat → Nat) : Dev :=
  if openE d a = 0 ∧ n = 256 then (if diesB d then diesD d else if aimC (wr1 d) a.toNat then { aimD (wr1 d) a.toNat with W := d.W ++ [⟨aimT (wr1 d) a.toNat, z⟩] } else aimD (wr1 d) a.toNat) else d
theorem aimD_nW (d : Dev) (a : Nat) : (aimD d a).n = d.n ∧ (aimD d a).W = d.W := by
  unfold aimD
  split
  · exact ⟨rfl, rfl⟩
  · split <;> exact ⟨rfl, rfl⟩
theorem diesD_more (d : Dev) : (diesD d).n = d.n ∧ (diesD d).W = d.W ∧ (diesD d).ops = d.ops ∧ (diesD d).drops = d.drops := by
  unfold diesD
  split
  · split <;> exact ⟨rfl, rfl, rfl, rfl⟩
  · exact ⟨rfl, rfl, rfl, rfl⟩
structure WrR (w wz wy wx : World) (H to : Nat) (z : Nat → Nat) (sv : Value) : Prop where
  al : w.alloc (.cells (wtC ⟨0, fun _ => 0⟩).toArray 121) = wz
  sz : w.heap.size = H
  st : (storeVar 121 ⟨H, 0, none⟩ (.agg (Value.int .i64 (to : Int) :: bytesL 256 (fun _ => 0)).toArray)).run Tryz.prog wz = .ok () wy
  cp : ∀ ty, (Builtin.copy_ #[ /-t-/24, /-t-/24] ty #[.slice (some ⟨H, 1, none⟩) 256 256, sv]).run Tryz.prog wy = .ok (goInt (bytesL 256 z).length) wx
  cx : wx.heap[H]? = some (.cells (wtC ⟨to, z⟩).toArray 121 (0, 0))
  ch : Ch (fun _ => False) w wx
  sx : wx.heap.size = H + 1
theorem wt_laid (to : Nat) (z y : Nat → Nat) : ((wtC ⟨to, y⟩).toArray.toList.take 1 ++ bytesL 256 z ++ (wtC ⟨to, y⟩).toArray.toList.drop (1 + (bytesL 256 z).length)).toArray = (wtC ⟨to, z⟩).toArray := by
  have e1 : (wtC ⟨to, y⟩).toArray.toList = wtC ⟨to, y⟩ := rfl
  have e2 : (wtC ⟨to, y⟩).drop (1 + (bytesL 256 z).length) = [] := List.drop_eq_nil_of_le (by rw [bytesL_len, wtC_len]; omega)
  have e3 : (wtC ⟨to, y⟩).take 1 = [Value.int .i64 (to : Int)] := by unfold wtC; rw [List.take_succ_cons, List.take_zero]
  rw [e1, e2, e3, List.append_nil]
  rfl
theorem wrR (w : World) (to : Nat) (z : Nat → Nat) (b o C : Nat) (h : RowV w (.slice (some ⟨b, o, none⟩) 256 C) 256 z) : ∃ wz wy wx, WrR w wz wy wx w.heap.size to z (.slice (some ⟨b, o, none⟩) 256 C) := by
  have h2 : RowV (w.alloc (.cells (wtC ⟨to, fun _ => 0⟩).toArray 121)) (.slice (some ⟨b, o, none⟩) 256 C) 256 z := h.gr ((Ch.refl _ w).alloc _ _)
  obtain ⟨b', o', e, hc⟩ := h2.at (by omega)
  injection e with e
  injection e with e1 e2
  subst e1
  subst e2
  refine ⟨_, w.alloc (.cells (wtC ⟨to, fun _ => 0⟩).toArray 121), w.alloc (.cells (wtC ⟨to, z⟩).toArray 121), rfl, rfl, ?_, ?_, heap_alloc_new _ _, (Ch.refl _ w).alloc _ _, by simp⟩
  · exact run_storeVar_new (P := Tryz.prog) w _ _ _ (by rw [List.size_toArray]; exact info_wt ⟨to, fun _ => 0⟩) (by rw [wtC_arr]; simp [bytesL_len]) (all_oneCell_toArray (wtC_one ⟨to, fun _ => 0⟩))
  · intro ty
    have := run_copy_row (P := Tryz.prog) (w.alloc (.cells (wtC ⟨to, fun _ => 0⟩).toArray 121)) /-t-/24 /-t-/24 ty /-t-/5 w.heap.size 1 256 256 ⟨b, o, none⟩ 256 C (wtC ⟨to, fun _ => 0⟩).toArray 121 (bytesL 256 z) Tryz.underlying24 size_byte (heap_alloc_new _ _) (by rw [bytesL_len]; rfl)
      (fun j v hj => by
        have hj2 : j < 256 := by
          have := (List.getElem?_eq_some_iff.1 hj).1
          rwa [bytesL_len] at this
        rw [add_pl, hc j hj2, ← hj, bytesL_get hj2]) (by rw [bytesL_len, wtC_arr]; omega) bytesL_one
    rw [World.setRow_alloc_new] at this
    rw [wt_laid] at this
    exact this
theorem RowV.far {w w' : World} {b o n C : Nat} {z : Nat → Nat} {S : Nat → Prop} (h : RowV w (.slice (some ⟨b, o, none⟩) n C) n z) (k : Ch S w w') (hS : ¬ S b) : RowV w' (.slice (some ⟨b, o, none⟩) n C) n z := by
  obtain ⟨A, D, e, h1, h2⟩ := h
  refine ⟨A, D, e, h1, fun hn => ?_⟩
  obtain ⟨b2, o2, hA, hc⟩ := h2 hn
  injection e with e1 _ _
  rw [hA] at e1
  injection e1 with e1
  injection e1 with e1 e2
  subst e1
  exact ⟨_, _, hA, fun c hcn => ⟨k.cell (hc c hcn).1 hS, (hc c hcn).2⟩⟩
theorem DevIs.wait {base : Nat} {w0 wx w2 : World} {p0 p : Ph} {d0 d : Dev} {x : Wt} {g cap : Nat} {r : Value} (h : DevIs base wx p d) (hn : d.n = d0.n) (hf : ∀ i, Foot p d i → Foot p0 d0 i ∨ w0.heap.size ≤ i) (hB : p.B = p0.B) (hk : Ch (Foot p0 d0) w0 wx)
    (ho : w2.ownsRow base 121 257 (.slice (some ⟨g, 0, none⟩) (d.W.length + 1) cap) (d.W ++ [x]).length (wtsL (d.W ++ [x]))) (hg : (wx.alloc (.cells (wtC x).toArray 121)).grownBy w2 p.V.ownBlock) (hv : p.V.ownBlock = some g ∨ g = wx.heap.size + 1) (hx : x.pl < d.n ∧ Bytes 256 x.z) :
    DPost base p0 d0 { d with W := d.W ++ [x] } r w0 (.returned r) (w2.setCell ⟨p.B, 1, none⟩ (.slice (some ⟨g, 0, none⟩) (d.W.length + 1) cap)) ∧ w2.cell? ⟨p.B, 1, none⟩ = some p.V ∧ w2.frozen? ⟨p.B, 1, none⟩ = false := by
  have k1 : Ch (fun i => p.V.ownBlock = some i) wx w2 := ((Ch.refl _ wx).alloc _ _).grown hg (fun i hi => Or.inl hi)
  have hb2 : w2.heap[p.B]? = some (.cells (devC p d) 118 (0, 0)) := (k1.block _ (blk_lt h.blk) h.BV).trans h.blk
  have k2 : Ch (fun i => i = p.B ∨ p.V.ownBlock = some i) wx (w2.setCell ⟨p.B, 1, none⟩ (.slice (some ⟨g, 0, none⟩) (d.W.length + 1) cap)) := Ch.setCell (S := fun i => i = p.B ∨ p.V.ownBlock = some i) (k1.mono fun _ _ e => Or.inr e) (p := ⟨p.B, 1, none⟩) (Or.inl (Or.inl rfl)) _
  have hgB : g ≠ p.B := fun e => by
    rcases hv with q | q
    · exact h.BV (e ▸ q)
    · have := blk_lt h.blk; omega
  refine ⟨⟨rfl, { p with V := .slice (some ⟨g, 0, none⟩) (d.W.length + 1) cap }, hB, ?_, ?_, ?_⟩, blk_cell hb2, blk_frozen hb2⟩
  · refine h.turnW k2 (blk_set hb2 _) (own_of ho (fun i hi => ?_)) (fun y hy => ?_)
    · have e : g = i := by injection hi
      subst e
      exact (Ch.setCell (S := fun j => j = p.B) (Ch.refl _ w2) (p := ⟨p.B, 1, none⟩) (Or.inl rfl) _).block g (blk_lt (own_at ho rfl).2.choose_spec) hgB
    · rcases List.mem_append.1 hy with q | q
      · exact h.wok y q
      · rw [List.mem_singleton.1 q]; exact hx
  · intro i hi
    rcases foot_turnW (p := p) (d := d) (V' := .slice (some ⟨g, 0, none⟩) (d.W.length + 1) cap) (W' := d.W ++ [x]) wx.heap.size (fun i hi => by
      have e : g = i := by injection hi
      subst e
      rcases hv with q | q
      · exact Or.inl q
      · exact Or.inr (by omega)) i hi with q | q
    · exact hf i q
    · exact Or.inr (Nat.le_trans hk.size q)
  · refine ⟨k2.os.trans hk.os, k2.tape.trans hk.tape, k2.output.trans hk.output, Nat.le_trans hk.size k2.size, fun i hi hS => ?_⟩
    rw [k2.block i (Nat.lt_of_lt_of_le hi hk.size) (fun e => ?_)]
    · exact hk.block i hi hS
    · rcases e with e | e
      · exact hS (Or.inl (e.trans hB))
      · rcases hf i (Or.inr (Or.inr (Or.inl e))) with q | q
        · exact hS q
        · omega
theorem write_bad {d : Dev} {a : Int} {n : Nat} {z : Nat → Nat} (h : ¬ openE d a = 0) : writeE d a n = openE d a ∧ writeD d a n z = d := by unfold writeE writeD; simp [h]
theorem write_len {d : Dev} {a : Int} {n : Nat} {z : Nat → Nat} (h : openE d a = 0) (hn : ¬ n = 256) : writeE d a n = 1 ∧ writeD d a n z = d := by unfold writeE writeD; simp [h, hn]
theorem write_dies {d : Dev} {a : Int} {z : Nat → Nat} (h : openE d a = 0) (hy : diesB d = true) : writeE d a 256 = 21 ∧ writeD d a 256 z = diesD d := by unfold writeE writeD; simp [h, hy]
theorem write_drop {d : Dev} {k : Nat} {z : Nat → Nat} (h : openE d k = 0) (hy : diesB d = false) (hc : aimC (wr1 d) k = false) : writeE d k 256 = 0 ∧ writeD d k 256 z = aimD (wr1 d) k := by unfold writeE writeD; simp [h, hy, hc]
theorem write_goes {d : Dev} {k : Nat} {z : Nat → Nat} (h : openE d k = 0) (hy : diesB d = false) (hc : aimC (wr1 d) k = true) : writeE d k 256 = 0 ∧ writeD d k 256 z = { aimD (wr1 d) k with W := d.W ++ [⟨aimT (wr1 d) k, z⟩] } := by unfold writeE writeD; simp [h, hy, hc]
theorem DevIs.count {base : Nat} {w w1 : World} {p : Ph} {d : Dev} (h1 : DevIs base w1 p (diesD d)) (hc1 : Ch (Foot p d) w w1) : ∃ w2, w1.setCell ⟨p.B, 5, none⟩ (.int .i64 ((d.ops : Int) + 1)) = w2 ∧ DevIs base w2 p (wr1 d) ∧ Ch (Foot p d) w w2 := by
  have h2 : DevIs base (w1.setCell ⟨p.B, 5, none⟩ (.int .i64 ((d.ops + 1 : Nat) : Int))) p (wr1 d) := h1.setOps (d.ops + 1)
  have hc2 : Ch (Foot p d) w (w1.setCell ⟨p.B, 5, none⟩ (.int .i64 ((d.ops + 1 : Nat) : Int))) := hc1.setCell (p := ⟨p.B, 5, none⟩) (Or.inl (Or.inl rfl)) _
  rw [show ((d.ops + 1 : Nat) : Int) = (d.ops : Int) + 1 by omega] at h2 hc2
  exact ⟨_, rfl, h2, hc2⟩
set_option maxHeartbeats 1600000 in
set_option maxRecDepth 100000 in
theorem write_any (base : Nat) (p : Ph) (d : Dev) (a : Int) (sb so n C : Nat) (z : Nat → Nat) (w : World) (h : DevIs base w p d) (hs : RowV w (.slice (some ⟨sb, so, none⟩) n C) n z) (hsf : ¬ Foot p d sb)
    (ho : d.ops ≤ 1152921504606846976) (hW : d.W.length ≤ 1048575) (hdr : ∀ a, d.drops a ≤ 1152921504606846976) :
    Calls Tryz.prog 60 #[.pointer (some ⟨p.B, 0, none⟩), .int .i64 a, .slice (some ⟨sb, so, none⟩) n C] w (DPost base p d (writeD d a n z) (.int .i64 (writeE d a n)) w) := by
  have HO := Lib.hid (open_any base p d a w h)
  by_cases hop : openE d a = 0
  · obtain ⟨hd, k, rfl, hk⟩ := openE_ok hop
    rw [hop] at HO
    by_cases hn : n = 256
    · subst hn
      have HY := Lib.hid (dies_any base p d w h)
      cases hy : diesB d
      · rw [hy] at HY
        have HD1 := Lib.hid (diesD_more d)
        have HZ := Lib.hid hs.bytes
        have HSR := Lib.hid hs
        have HSF := Lib.hid hsf
        have HDR := Lib.hid hdr
        have HK := Lib.hid hk
        have HN := Lib.hid (show (wr1 d).n = d.n from HD1.out.1)
        have HWL := Lib.hid (show (wr1 d).W = d.W from HD1.out.2.1)
        cases hcm : aimC (wr1 d) k
        · have hS := write_drop (z := z) hop hy hcm
          rw [hS.1, hS.2]
          have HCM := Lib.hid hcm
          clear hS hs hsf hdr hop hy hd hk h hcm
          go_enter Tryz.func60, Tryz.ntmps60
          go_wp2_with fail
          refine HO.out.mono ?_
          rintro e w' ⟨rfl, rfl⟩
          go_wp2_with fail
          refine HY.out.mono ?_
          rintro e w1 ⟨rfl, h1, hc1⟩
          have c5 : w1.cell? ⟨p.B, 5, none⟩ = some (.int .i64 ((diesD d).ops : Int)) := h1.cellB 5
          rw [HD1.out.2.2.1] at c5
          have f5 := h1.frB 5
          obtain ⟨w2, hw2, h2, hc2⟩ := h1.count hc1
          have HA := Lib.hid (aim_any base p (wr1 d) k w2 h2 (by rw [HN.out]; exact HK.out) (by show (diesD d).drops k ≤ _; rw [HD1.out.2.2.2]; exact HDR.out k))
          rw [HCM.out] at HA
          have HC2 := Lib.hid hc2
          clear h1 hc1 h2 hc2 HY HO HDR
          obtain ⟨B, G, V, m, cG⟩ := p
          go_wp2_with fail
          refine HA.out.mono ?_
          rintro e w3 ⟨rfl, p3, hp3, h3, hf3, hc3⟩
          have HP := Lib.hid (show DPost base ⟨B, G, V, m, cG⟩ d (aimD (wr1 d) k) (.int .i64 0) w (.returned (.int .i64 0)) w3 from ⟨rfl, p3, hp3, h3, fun i hi => by
            rcases hf3 i hi with q | q
            · exact Or.inl ((foot_n HN.out).1 q)
            · exact Or.inr (Nat.le_trans HC2.out.size q), HC2.out.trans (hc3.mono fun i _ hi => (foot_n HN.out).1 hi)⟩)
          clear h3 hf3 hc3 hp3
          go_wp2
          go_ret
          exact HP.out
        · have hS := write_goes (z := z) hop hy hcm
          rw [hS.1, hS.2]
          have HCM := Lib.hid hcm
          obtain ⟨to, hto⟩ : ∃ to, to = aimT (wr1 d) k := ⟨_, rfl⟩
          obtain ⟨e3, he3⟩ : ∃ e3, e3 = aimD (wr1 d) k := ⟨_, rfl⟩
          have HE3 := Lib.hid (show e3.n = d.n ∧ e3.W = d.W by rw [he3]; exact ⟨(aimD_nW _ _).1.trans HN.out, (aimD_nW _ _).2.trans HWL.out⟩)
          have HTO := Lib.hid hto
          have HE := Lib.hid he3
          rw [← hto, ← he3]
          clear hS hs hsf hdr hop hy hd hk h hcm hto he3
          go_enter Tryz.func60, Tryz.ntmps60
          go_wp2_with fail
          refine HO.out.mono ?_
          rintro e w' ⟨rfl, rfl⟩
          go_wp2_with fail
          refine HY.out.mono ?_
          rintro e w1 ⟨rfl, h1, hc1⟩
          have c5 : w1.cell? ⟨p.B, 5, none⟩ = some (.int .i64 ((diesD d).ops : Int)) := h1.cellB 5
          rw [HD1.out.2.2.1] at c5
          have f5 := h1.frB 5
          obtain ⟨w2, hw2, h2, hc2⟩ := h1.count hc1
          have HA := Lib.hid (aim_any base p (wr1 d) k w2 h2 (by rw [HN.out]; exact HK.out) (by show (diesD d).drops k ≤ _; rw [HD1.out.2.2.2]; exact HDR.out k))
          have HAT := Lib.hid (aimT_lt h2 (a := k) (by rw [HN.out]; exact HK.out))
          rw [HCM.out, ← HTO.out, ← HE.out] at HA
          rw [← HTO.out, HN.out] at HAT
          have HC2 := Lib.hid hc2
          clear h1 hc1 h2 hc2 HY HO HDR
          obtain ⟨B, G, V, m, cG⟩ := p
          go_wp2_with fail
          refine HA.out.mono ?_
          rintro e w3 ⟨rfl, p3, hp3, h3, hf3, hc3⟩
          have hk3 : Ch (Foot ⟨B, G, V, m, cG⟩ d) w w3 := HC2.out.trans (hc3.mono fun i _ hi => (foot_n HN.out).1 hi)
          obtain ⟨wz, wy, wx, hR⟩ := wrR w3 to z sb so C (HSR.out.far hk3 HSF.out)
          obtain ⟨H, hH⟩ : ∃ H, H = w3.heap.size := ⟨_, rfl⟩
          rw [← hH] at hR
          obtain ⟨wd, hwd⟩ : ∃ wd, wd = wx.drew := ⟨_, rfl⟩
          have kd : Ch (fun _ => False) w3 wd := by rw [hwd]; exact hR.ch.drew
          have hx3 : DevIs base wd p3 e3 := h3.gr kd
          have hkx : Ch (Foot ⟨B, G, V, m, cG⟩ d) w wd := hk3.trans (kd.mono fun _ _ f => f.elim)
          have hfx : ∀ i, Foot p3 e3 i → Foot ⟨B, G, V, m, cG⟩ d i ∨ w.heap.size ≤ i := fun i hi => by
            rcases hf3 i hi with q | q
            · exact Or.inl ((foot_n HN.out).1 q)
            · exact Or.inr (Nat.le_trans HC2.out.size q)
          have hlen : e3.W.length = d.W.length := by rw [HE3.out.2]
          have hown : (wd.alloc (.cells (wtC ⟨to, z⟩).toArray 121)).ownsRow base 121 257 p3.V e3.W.length (wtsL e3.W) := own_of hx3.wts (fun i hi => ((Ch.refl (fun _ => False) wd).alloc _ _).block i (blk_lt (own_at hx3.wts hi).2.choose_spec) (fun f => f))
          obtain ⟨g, cap, w4, hr4, ho4, hg4, hv4⟩ := app_wt (x := ⟨to, z⟩) (ad := ⟨wd.heap.size, 0, none⟩) (C := 1) hown (Nat.le_trans (Nat.le_trans hx3.lowB (Nat.le_of_lt (blk_lt hx3.blk))) (by simp)) (fun j u hu => by rw [add_pl, Nat.zero_add, alloc_cell, List.getElem?_toArray]; exact hu) (by omega)
          rw [show (wd.alloc (.cells (wtC ⟨to, z⟩).toArray 121)).heap.size = wd.heap.size + 1 by simp] at hv4
          obtain ⟨hp4, c14, f14⟩ := hx3.wait (r := .int .i64 0) HE3.out.1 hfx hp3 hkx ho4 hg4 hv4 ⟨by rw [HE3.out.1]; exact HAT.out, HZ.out⟩
          rw [HE3.out.2, hp3] at hp4
          have c1x : wd.cell? ⟨B, 1, none⟩ = some p3.V := by have := hx3.cellB 1; rw [hp3] at this; exact this
          rw [hp3] at c14 f14
          obtain ⟨ws, hws⟩ : ∃ ws, ws = wd.alloc (.cells (wtC ⟨to, z⟩).toArray 121) := ⟨_, rfl⟩
          obtain ⟨K2, hK2⟩ : ∃ K2, K2 = wd.heap.size := ⟨_, rfl⟩
          have hHd : wd.heap[H]? = some (.cells (wtC ⟨to, z⟩).toArray 121 (0, 0)) := by rw [hwd]; exact hR.cx
          have hHs : ws.heap[H]? = some (.cells (wtC ⟨to, z⟩).toArray 121 (0, 0)) := by rw [hws]; exact (((Ch.refl (fun _ => False) wd).alloc _ _).block H (blk_lt hHd) (fun f => f)).trans hHd
          have hVH : p3.V.ownBlock ≠ some H := fun e => by
            have := (h3.foot (Or.inr (Or.inr (Or.inl e)))).2
            omega
          have hBH : H ≠ B := fun e => by
            have := (h3.foot (i := B) (Or.inl hp3.symm)).2
            omega
          rw [← hws, ← hK2] at hr4
          rw [← hws] at hg4
          have hH4 : w4.heap[H]? = some (.cells (wtC ⟨to, z⟩).toArray 121 (0, 0)) := by rw [hg4.block H (blk_lt hHs) (fun e => hVH e.symm)]; exact hHs
          have rg : ∀ {W : World}, W.heap[H]? = some (.cells (wtC ⟨to, z⟩).toArray 121 (0, 0)) → W.rangeAt H 0 (wtC ⟨to, z⟩) := fun {W} hw j v hj => by rw [Nat.zero_add, blk_cell hw, List.getElem?_toArray]; exact hj
          have HRd := Lib.hid (rg hHd)
          have HRs := Lib.hid (rg hHs)
          have HR4 := Lib.hid (rg hH4)
          obtain ⟨N, hN⟩ : ∃ N, N = d.W.length + 1 := ⟨_, rfl⟩
          rw [hlen] at hr4
          rw [← hN] at hp4 hr4
          have HR5 := Lib.hid (rg (W := w4.setCell ⟨B, 1, none⟩ (.slice (some ⟨g, 0, none⟩) N cap)) (((Ch.setCell (S := fun j => j = B) (Ch.refl _ w4) (p := ⟨B, 1, none⟩) (Or.inl rfl) _).block H (blk_lt hH4) hBH).trans hH4))
          have hsl := slice_one wd ⟨to, z⟩
          rw [← hws, ← hK2] at hsl
          have HSL := Lib.hid hsl
          have HRUN := Lib.hid hr4
          have HP := Lib.hid hp4
          have HR := Lib.hid hR
          have HWD := Lib.hid hwd
          have c1s : ws.cell? ⟨B, 1, none⟩ = some p3.V := by rw [hws]; exact Lib.cell?_alloc_some _ c1x
          obtain ⟨A3, C3, hV3⟩ := hx3.vform
          obtain ⟨L3, hL3⟩ : ∃ L3, L3 = e3.W.length := ⟨_, rfl⟩
          rw [← hL3] at hV3
          rw [hV3] at c1x c1s c14 HRUN
          clear hsl hr4 hp4 hR rg hH4 hBH hVH hHs hHd hg4 hv4 ho4 hown hfx hkx hx3 kd hk3 h3 hf3 hc3 hp3 hN hws hK2 hH hlen hwd hV3 hL3
          go_wp2_with ((with_reducible refine wpList_same ?_); first
            | refine wpList_building1 _ rfl 121 0 (.tmp 36) rfl (.int .i64 (to : Int)) (.agg (Value.int .i64 (to : Int) :: bytesL 256 (fun _ => 0)).toArray) rfl (by exact built_write _ _) ?_
            | refine wpList_making _ wz rfl 121 rfl (wtC ⟨0, fun _ => 0⟩).toArray H (by exact zero_write _) (by exact HR.out.sz) (by exact HR.out.al) ?_
            | refine wpList_storing _ wy rfl 121 (.tmp 10) (.tmp 37) rfl (.agg (Value.int .i64 (to : Int) :: bytesL 256 (fun _ => 0)).toArray) ⟨H, 0, none⟩ rfl rfl (by exact HR.out.st) ?_
            | refine wpList_cpy_of _ rfl (.tmp 39) (.tmp 40) rfl (.slice (some ⟨H, 1, none⟩) 256 256) (.slice (some ⟨sb, so, none⟩) 256 C) (goInt (bytesL 256 z).length) wx rfl rfl (by exact HR.out.cp) ?_)
          refine wp_region_held (S := fun W' => W'.rangeAt H 0 (wtC ⟨to, z⟩)) (by kernel_rfl) ?_
          change wpAnyH _ _ _ _ _ _ _ _ (World.drew _)
          rw [← HWD.out]
          have HS : (fun W' : World => W'.rangeAt H 0 (wtC ⟨to, z⟩)) wd := HRd.out
          obtain ⟨dsc, hds, hdr⟩ := under_wt
          refine wpAnyH_take (i := 0) (v := .pointer (some ⟨B, 0, none⟩)) rfl (by kernel_rfl) (by kernel_rfl) (by kernel_rfl) (fun _ _ _ h => h) (Or.inl ⟨by rfl, fun w' hS => ?_⟩) HS ?_
          · clear hS; go_simp
          refine wpAnyH_take (i := 1) (v := .pointer (some ⟨B, 0, none⟩)) rfl (by kernel_rfl) (by kernel_rfl) (by kernel_rfl) (fun _ _ _ h => h) (Or.inl ⟨by rfl, fun w' hS => ?_⟩) HS ?_
          · clear hS; go_simp
          refine wpAnyH_take (i := 2) (v := .pointer (some ⟨B, 0, none⟩)) rfl (by kernel_rfl) (by kernel_rfl) (by kernel_rfl) (fun _ _ _ h => h) (Or.inl ⟨by rfl, fun w' hS => ?_⟩) HS ?_
          · clear hS; go_simp
          refine wpAnyH_take (i := 3) (v := .pointer (some ⟨B, 1, none⟩)) rfl (by kernel_rfl) (by kernel_rfl) (by kernel_rfl) (fun _ _ _ h => h) (Or.inl ⟨by rfl, fun w' hS => ?_⟩) HS ?_
          · clear hS; go_simp
          refine wpAnyH_take (i := 5) (v := .agg (wtC ⟨to, z⟩).toArray) rfl (by kernel_rfl) (by kernel_rfl) (by kernel_rfl) (fun _ _ _ h => h) (yieldsIf_load_mid (by rfl) 121 (.tmp 10) rfl H 0 rfl (wtC ⟨to, z⟩) dsc (fun w h => h) hds hdr (info_wt _)) HS ?_
          change wpAnyH Tryz.prog .any _ _ _ 6 #[true, true, true, true, false, true, false, false, false, false, false] _ wd
          simp only [Act.put, List.setIfInBounds_toArray, List.set_cons_zero, List.set_cons_succ]
          refine wpAnyH_ready (rs := [4, 6]) (by kernel_rfl) (by simp) ?_
          refine AllReadyH.cons rfl (fun K hK => ?_) (AllReadyH.cons rfl (fun K hK => ?_) AllReadyH.nil)
          · go_simp
            refine hK.out _ _ HRd.out (fun _ => ?_)
            clear hK K
            refine wpAnyH_ready (rs := [6]) (by kernel_rfl) (by simp) ?_
            refine AllReadyH.cons rfl (fun K hK => ?_) AllReadyH.nil
            refine step_slicing1 rfl 116 0 1 (.tmp 47) rfl (.agg (wtC ⟨to, z⟩).toArray) (.slice (some ⟨K2, 0, none⟩) 1 1) ws rfl HSL.out ?_
            refine hK.out _ _ HRs.out (fun _ => ?_)
            clear hK K
            refine wpAnyH_ready (rs := [7]) (by kernel_rfl) (by simp) ?_
            refine AllReadyH.cons rfl (fun K hK => ?_) AllReadyH.nil
            refine step_appW rfl (.tmp 46) (.tmp 48) rfl rfl _ _ (.slice (some ⟨g, 0, none⟩) N cap) w4 rfl rfl HRUN.out ?_
            refine hK.out _ _ HR4.out (fun _ => ?_)
            · skip
              clear hK K
              refine wpAnyH_ready (rs := [8]) (by kernel_rfl) (by simp) ?_
              refine AllReadyH.cons rfl (fun K hK => ?_) AllReadyH.nil
              go_simp
              refine hK.out _ _ HR4.out (fun _ => ?_)
              clear hK K
              refine wpAnyH_ready (rs := [9]) (by kernel_rfl) (by simp) ?_
              refine AllReadyH.cons rfl (fun K hK => ?_) AllReadyH.nil
              go_simp
              refine hK.out _ _ HR4.out (fun _ => ?_)
              clear hK K
              refine wpAnyH_ready (rs := [10]) (by kernel_rfl) (by simp) ?_
              refine AllReadyH.cons rfl (fun K hK => ?_) AllReadyH.nil
              go_simp
              refine hK.out _ _ HR5.out (fun _ => ?_)
              clear hK K
              refine wpAnyH_done (by kernel_rfl) ?_ _
              go_wp2
              go_ret
              exact HP.out
          · refine step_slicing1 rfl 116 0 1 (.tmp 47) rfl (.agg (wtC ⟨to, z⟩).toArray) (.slice (some ⟨K2, 0, none⟩) 1 1) ws rfl HSL.out ?_
            refine hK.out _ _ HRs.out (fun _ => ?_)
            clear hK K
            refine wpAnyH_ready (rs := [4]) (by kernel_rfl) (by simp) ?_
            refine AllReadyH.cons rfl (fun K hK => ?_) AllReadyH.nil
            go_simp
            refine hK.out _ _ HRs.out (fun _ => ?_)
            clear hK K
            refine wpAnyH_ready (rs := [7]) (by kernel_rfl) (by simp) ?_
            refine AllReadyH.cons rfl (fun K hK => ?_) AllReadyH.nil
            refine step_appW rfl (.tmp 46) (.tmp 48) rfl rfl _ _ (.slice (some ⟨g, 0, none⟩) N cap) w4 rfl rfl HRUN.out ?_
            refine hK.out _ _ HR4.out (fun _ => ?_)
            · skip
              clear hK K
              refine wpAnyH_ready (rs := [8]) (by kernel_rfl) (by simp) ?_
              refine AllReadyH.cons rfl (fun K hK => ?_) AllReadyH.nil
              go_simp
              refine hK.out _ _ HR4.out (fun _ => ?_)
              clear hK K
              refine wpAnyH_ready (rs := [9]) (by kernel_rfl) (by simp) ?_
              refine AllReadyH.cons rfl (fun K hK => ?_) AllReadyH.nil
              go_simp
              refine hK.out _ _ HR4.out (fun _ => ?_)
              clear hK K
              refine wpAnyH_ready (rs := [10]) (by kernel_rfl) (by simp) ?_
              refine AllReadyH.cons rfl (fun K hK => ?_) AllReadyH.nil
              go_simp
              refine hK.out _ _ HR5.out (fun _ => ?_)
              clear hK K
              refine wpAnyH_done (by kernel_rfl) ?_ _
              go_wp2
              go_ret
              exact HP.out
      · have hS := write_dies (z := z) hop hy
        rw [hS.1, hS.2]
        rw [hy] at HY
        clear hS hop hy h hs
        go_enter Tryz.func60, Tryz.ntmps60
        go_wp2_with fail
        refine HO.out.mono ?_
        rintro e w' ⟨rfl, rfl⟩
        go_wp2_with fail
        refine HY.out.mono ?_
        rintro e w1 ⟨rfl, h1, hc1⟩
        have HP := Lib.hid (DPost.turned (base := base) (r := .int .i64 21) h1 (diesD_more d).1 hc1)
        clear h1 hc1
        go_wp2
        go_ret
        exact HP.out
    · have hS := write_len (z := z) hop hn
      have HP := Lib.hid (DPost.turned (base := base) (r := .int .i64 1) h rfl (Ch.refl _ w))
      have t1 : ((n : Int) != 256) = true := by simp; omega
      rw [hS.1, hS.2]
      clear hS hop h hs
      go_enter Tryz.func60, Tryz.ntmps60
      go_wp2_with fail
      refine HO.out.mono ?_
      rintro e w' ⟨rfl, rfl⟩
      go_wp2
      go_ret
      exact HP.out
  · have hS := write_bad (n := n) (z := z) hop
    have HP := Lib.hid (DPost.turned (base := base) (r := .int .i64 (openE d a)) h rfl (Ch.refl _ w))
    have t1 : (openE d a != 0) = true := by simpa using hop
    rw [hS.1, hS.2]
    clear hS hop h hs
    go_enter Tryz.func60, Tryz.ntmps60
    go_wp2_with fail
    refine HO.out.mono ?_
    rintro e w' ⟨rfl, rfl⟩
    go_wp2
    go_ret
    exact HP.out
end Go.Proofs.YteleknojohnlbaaGreat
