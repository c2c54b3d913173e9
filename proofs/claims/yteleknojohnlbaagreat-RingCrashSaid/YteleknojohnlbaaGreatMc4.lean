/-
  (*disk.Disk).Read, walked. What waits: a write behind the others; (*disk.Disk).Write, walked.
-/
import Derived.Test.YteleknojohnlbaaGreatMc3
import Derived.Great.BuildSlice
import Derived.Great.FillDense
import Derived.Deep.AppendLies
namespace Go.Proofs.YteleknojohnlbaaGreat
open Go.RowKit
set_option linter.unusedVariables false
set_option maxRecDepth 100000
def scan (W : List Wt) (a : Nat) : Nat → Option Wt
  | 0 => none
  | k + 1 => match W[k]? with
    | some x => if x.pl = a then some x else scan W a k
    | none => scan W a k
def lastW (W : List Wt) (a : Nat) : Option Wt := scan W a W.length
theorem scan_front (W : List Wt) (x : Wt) (a : Nat) : ∀ k, k ≤ W.length → scan (W ++ [x]) a k = scan W a k
  | 0, _ => rfl
  | k + 1, h => by
    unfold scan
    rw [List.getElem?_append_left (by omega), scan_front W x a k (by omega)]
theorem lastW_snoc (W : List Wt) (x : Wt) (a : Nat) : lastW (W ++ [x]) a = if x.pl = a then some x else lastW W a := by
  unfold lastW
  rw [List.length_append, List.length_singleton]
  conv => lhs; unfold scan
  rw [show (W ++ [x])[W.length]? = some x by simp]
  show (if x.pl = a then some x else scan (W ++ [x]) a W.length) = _
  rw [scan_front W x a W.length (Nat.le_refl _)]
theorem lastW_nil (a : Nat) : lastW [] a = none := rfl
theorem scan_mem {W : List Wt} {a : Nat} {x : Wt} : ∀ {k : Nat}, scan W a k = some x → x ∈ W ∧ x.pl = a
  | 0, h => by cases h
  | k + 1, h => by
    unfold scan at h
    cases q : W[k]? with
    | none => rw [q] at h; exact scan_mem h
    | some y =>
      rw [q] at h
      dsimp only at h
      by_cases e : y.pl = a
      · rw [if_pos e] at h
        injection h with h
        subst h
        exact ⟨List.mem_of_getElem? q, e⟩
      · rw [if_neg e] at h; exact scan_mem h
def readE (d : Dev) (a : Int) : Int := if openE d a = 0 then (if (lastW d.W a.toNat).isNone && d.lost a.toNat then 20 else 0) else openE d a
def readD (d : Dev) (a : Int) : Dev := if openE d a = 0 then { d with ops := d.ops + 1 } else d
def readL (d : Dev) (a : Int) : Nat := if readE d a = 0 then 256 else 0
def readZ (d : Dev) (a : Int) : Nat → Nat := match lastW d.W a.toNat with
  | some x => x.z
  | none => d.has a.toNat
def ReadPost (base : Nat) (p : Ph) (d : Dev) (a : Int) (w : World) (e : Ending) (w' : World) : Prop :=
  ∃ v, e = .returned (.tuple #[v, .int .i64 (readE d a)]) ∧ DevIs base w' p (readD d a) ∧ w'.ownsRow w.heap.size /-t-/5 1 v (readL d a) (bytesL (readL d a) (readZ d a)) ∧ Ch (Foot p d) w w'
theorem openE_ne {d : Dev} {a : Int} (h : ¬ openE d a = 0) : readE d a = openE d a ∧ readD d a = d ∧ readL d a = 0 := by
  have e : readE d a = openE d a := by unfold readE; rw [if_neg h]
  exact ⟨e, by unfold readD; rw [if_neg h], by unfold readL; rw [e, if_neg h]⟩
theorem openE_ok {d : Dev} {a : Int} (h : openE d a = 0) : d.dead = false ∧ ∃ k : Nat, a = (k : Int) ∧ k < d.n := by
  unfold openE at h
  cases hd : d.dead
  · rw [hd] at h
    cases hh : hasB d a
    · rw [hh] at h; simp at h
    · have := of_decide_eq_true hh
      exact ⟨rfl, a.toNat, by omega, by omega⟩
  · rw [hd] at h; simp at h
theorem DevIs.wt {base : Nat} {w : World} {p : Ph} {d : Dev} (h : DevIs base w p d) {k : Nat} {x : Wt} (hk : d.W[k]? = some x) : ∃ g cap, p.V = .slice (some ⟨g, 0, none⟩) d.W.length cap ∧ w.rangeAt g (k * 257) (wtC x) := by
  have hl : k < d.W.length := (List.getElem?_eq_some_iff.1 hk).1
  obtain ⟨g, cap, hv, _, _⟩ := World.ownsRow.form h.wts (by omega)
  refine ⟨g, cap, hv, fun j v hj => ?_⟩
  have hj2 : j < 257 := by
    have := (List.getElem?_eq_some_iff.1 hj).1
    rwa [wtC_len] at this
  have h2 := World.ownsRow.cells (h := (hv ▸ h.wts)) (g := g) rfl (k * 257 + j) v (by rw [wtsL_get hk hj2]; exact hj)
  rwa [add_pl, Nat.zero_add] at h2
theorem DevIs.vform {base : Nat} {w : World} {p : Ph} {d : Dev} (h : DevIs base w p d) : ∃ A C, p.V = .slice A d.W.length C := by
  rcases h.wts.2 with ⟨hv, h0⟩ | ⟨g, cap, cur, hv, _⟩
  · exact ⟨none, 0, by rw [hv, h0]⟩
  · exact ⟨_, _, hv⟩
theorem range_row {w : World} {g o : Nat} {z : Nat → Nat} (h : w.rangeAt g o (bytesL 256 z)) (hz : Bytes 256 z) (C : Nat) (hC : 256 ≤ C) : RowV w (.slice (some ⟨g, o, none⟩) 256 C) 256 z :=
  ⟨_, _, rfl, by omega, fun _ => ⟨g, o, rfl, fun c hc => ⟨h c _ (bytesL_get hc), hz c hc⟩⟩⟩
theorem DevIs.hasR {base : Nat} {w : World} {p : Ph} {d : Dev} (h : DevIs base w p d) {a : Nat} (ha : a < d.n) : w.rangeAt p.G (a * 259) (bytesL 256 (d.has a)) := fun j v hj => by
  have hj2 : j < 256 := by
    have := (List.getElem?_eq_some_iff.1 hj).1
    rwa [bytesL_len] at this
  rw [h.cellG ha (by omega), ← hj, bytesL_get hj2]
  unfold secV
  rw [if_pos hj2]
set_option maxHeartbeats 800000 in
set_option maxRecDepth 100000 in
theorem read_any (base : Nat) (p : Ph) (d : Dev) (a : Int) (w : World) (h : DevIs base w p d) (ho : d.ops ≤ 1152921504606846976) (hW : d.W.length ≤ 1048576) :
    Calls Tryz.prog 108 #[.pointer (some ⟨p.B, 0, none⟩), .int .i64 a] w (ReadPost base p d a w) := by
  have HO := Lib.hid (open_any base p d a w h)
  by_cases hop : openE d a = 0
  · obtain ⟨hd, k, rfl, hk⟩ := openE_ok hop
    rw [hop] at HO
    have c5 : w.cell? ⟨p.B, 5, none⟩ = some (.int .i64 (d.ops : Int)) := h.cellB 5
    have f5 := h.frB 5
    have h1 := h.setOps (d.ops + 1)
    have HC1 := Lib.hid (chBF (d := d) (chB h 5 (.int .i64 ((d.ops + 1 : Nat) : Int))))
    have HRD := Lib.hid (show readD d k = { d with ops := d.ops + 1 } by unfold readD; rw [if_pos hop])
    have eop : ((d.ops + 1 : Nat) : Int) = (d.ops : Int) + 1 := by omega
    rw [eop] at h1 HC1
    obtain ⟨w1, hw1⟩ : ∃ w1, w1 = w.setCell ⟨p.B, 5, none⟩ (.int .i64 ((d.ops : Int) + 1)) := ⟨_, rfl⟩
    rw [← hw1] at h1 HC1
    have HW1 := Lib.hid hw1.symm
    have c0 : w1.cell? ⟨p.B, 0, none⟩ = some (.slice (some ⟨p.G, 0, none⟩) d.n p.c) := h1.cellB 0
    have c1 : w1.cell? ⟨p.B, 1, none⟩ = some p.V := h1.cellB 1
    have cl : w1.cell? ⟨p.G, k * 259 + 256, none⟩ = some (.bool (d.lost k)) := h1.cellG hk (by omega : 256 < 259)
    have HSZ := Lib.hid (show w1.heap.size = w.heap.size by rw [hw1]; simp [World.setCell])
    have i1 : (0 : Int) ≤ (k : Int) := Int.natCast_nonneg _
    have i2 : (k : Int) < (d.n : Int) := by omega
    have HK := Lib.hid hk
    have H1 := Lib.hid h1
    have HH := Lib.hid h
    have HOP := Lib.hid hop
    obtain ⟨A, C, hV⟩ := h.vform
    rw [hV] at c1
    have HV := Lib.hid hV
    have hBP : w.setCell ⟨p.B, 5, none⟩ (.int .i64 ((d.ops : Int) + 1)) = w1 := hw1.symm
    obtain ⟨B, G, V, m, cG⟩ := p
    clear h h1 hw1 hV hop hk eop
    obtain ⟨L, hL⟩ : ∃ L, L = d.W.length := ⟨_, rfl⟩
    have HLN := Lib.hid hL
    rw [← hL] at c1 hW
    have hfin : ∀ (v : Value) (z : Nat → Nat) (w2 : World), readE d k = 0 → readZ d k = z → w2.ownsRow w1.heap.size /-t-/5 1 v 256 (bytesL 256 z) → Ch (fun _ => False) w1 w2 →
        ReadPost base ⟨B, G, V, m, cG⟩ d k w (.returned (.tuple #[v, .int .i64 0])) w2 := fun v z w2 e1 e2 e3 e4 => by
      have e5 : readL d k = 256 := by unfold readL; rw [if_pos e1]
      refine ⟨v, by rw [e1], by rw [HRD.out]; exact H1.out.gr e4, ?_, HC1.out.trans (e4.mono fun _ _ f => f.elim)⟩
      rw [e5, e2, ← HSZ.out]
      exact e3
    have HFIN := Lib.hid hfin
    clear hfin hL
    go_enter Tryz.func108, Tryz.ntmps108
    go_wp2_with fail
    refine HO.out.mono ?_
    rintro e w' ⟨rfl, rfl⟩
    go_wp2_with fail
    clear hBP HW1 HO ho
    go_loopw [7] (fun i wr => ∃ j : Nat, j ≤ L ∧ i = .int .i64 ((j : Int) - 1) ∧ Hid (scan d.W k j = lastW d.W k) ∧ wr = w1) (fun i _ => (intOf i + 1).toNat)
    case atStart => exact ⟨L, Nat.le_refl _, rfl, Lib.hid (by unfold lastW; rw [← HLN.out]), rfl⟩
    case round =>
      obtain ⟨j, hj, rfl, HJ, rfl⟩ := hrel
      cases j with
      | zero =>
        have HE0 := Lib.hid (show (none : Option Wt) = lastW d.W k from HJ.out)
        cases hlo : d.lost k
        · rw [hlo] at cl
          have hE : readE d k = 0 := by unfold readE; rw [if_pos HOP.out, Int.toNat_natCast, ← HE0.out, hlo]; rfl
          have hZ : readZ d k = d.has k := by unfold readZ; rw [Int.toNat_natCast, ← HE0.out]
          have HCL := Lib.hid (clone_some ⟨G, k * 259, none⟩ 256 256 (d.has k) wr (range_row (H1.out.hasR HK.out) (fun c hc => HH.out.byt k c HK.out hc) 256 (by omega)) (by omega))
          have HE := Lib.hid hE
          have HZ := Lib.hid hZ
          clear hE hZ hlo hj
          go_wp2_with fail
          refine HCL.out.mono ?_
          rintro e w2 ⟨v, rfl, h2, hc2⟩
          have HF := Lib.hid (HFIN.out v _ w2 HE.out HZ.out h2 hc2)
          clear h2 hc2
          go_wp2
          go_ret2
          exact HF.out
        · rw [hlo] at cl
          have hE : readE d k = 20 := by unfold readE; rw [if_pos HOP.out, Int.toNat_natCast, ← HE0.out, hlo]; rfl
          have HP := Lib.hid (show ReadPost base ⟨B, G, V, m, cG⟩ d k w (.returned (.tuple #[.slice none 0 0, .int .i64 20])) wr from
            ⟨_, by rw [hE], by rw [HRD.out]; exact H1.out, by rw [show readL d k = 0 by unfold readL; rw [hE]; rfl]; exact World.ownsRow_nil _ _ _ _, HC1.out⟩)
          clear hE hlo hj
          go_wp2
          go_ret2
          exact HP.out
      | succ j =>
        have ej : ((j + 1 : Nat) : Int) - 1 = (j : Int) := by omega
        rw [ej]
        obtain ⟨x, hx⟩ : ∃ x, d.W[j]? = some x := ⟨_, List.getElem?_eq_getElem (by rw [← HLN.out]; omega)⟩
        obtain ⟨g, cap, hv, hrg⟩ := H1.out.wt (k := j) (x := x) hx
        have hv2 := HV.out.symm.trans hv
        injection hv2 with q1 q2 q3
        subst q1
        subst q3
        have x0 : wr.cell? ⟨g, j * 257, none⟩ = some (.int .i64 (x.pl : Int)) := hrg 0 _ rfl
        have i3 : (0 : Int) ≤ (j : Int) := Int.natCast_nonneg _
        have i4 : (j : Int) < (L : Int) := by omega
        have hxm := H1.out.wok x (List.mem_of_getElem? hx)
        have hJ2 : scan d.W k (j + 1) = if x.pl = k then some x else scan d.W k j := by
          conv => lhs; unfold scan
          rw [hx]
        rw [HJ.out] at hJ2
        by_cases hq : x.pl = k
        · have t1 : ((x.pl : Int) == (k : Int)) = true := by simp [hq]
          have hE : readE d k = 0 := by unfold readE; rw [if_pos HOP.out, Int.toNat_natCast, hJ2, if_pos hq]; rfl
          have hZ : readZ d k = x.z := by unfold readZ; rw [Int.toNat_natCast, hJ2, if_pos hq]
          have hrr : wr.rangeAt g (j * 257 + 1) (bytesL 256 x.z) := fun i v hi => by
            have := hrg (i + 1) v (by
              have hi2 : i < 256 := by
                have := (List.getElem?_eq_some_iff.1 hi).1
                rwa [bytesL_len] at this
              rw [wtC_succ x hi2, ← hi, bytesL_get hi2])
            rwa [show j * 257 + (i + 1) = j * 257 + 1 + i by omega] at this
          have HCL := Lib.hid (clone_some ⟨g, j * 257 + 1, none⟩ 256 256 x.z wr (range_row hrr hxm.2 256 (by omega)) (by omega))
          have HE := Lib.hid hE
          have HZ := Lib.hid hZ
          clear hE hZ hrr hxm hrg hx hJ2 HJ hv hq q2 ej
          go_wp2_with fail
          refine HCL.out.mono ?_
          rintro e w2 ⟨v, rfl, h2, hc2⟩
          have HF := Lib.hid (HFIN.out v _ w2 HE.out HZ.out h2 hc2)
          clear h2 hc2
          go_wp2
          go_ret2
          exact HF.out
        · have t1 : ((x.pl : Int) == (k : Int)) = false := by simp; omega
          have HS := Lib.hid (show scan d.W k j = lastW d.W k by rw [hJ2, if_neg hq])
          clear hxm hrg hx hJ2 HJ hv hq q2 ej
          go_wp2
          go_roundw
          case rel => exact ⟨j, by omega, rfl, HS, trivial⟩
          case measure => simp [intOf] <;> omega
  · obtain ⟨e1, e2, e3⟩ := openE_ne hop
    have HP := Lib.hid (show ReadPost base p d a w (.returned (.tuple #[.slice none 0 0, .int .i64 (openE d a)])) w from ⟨_, by rw [e1], by rw [e2]; exact h, by rw [e3]; exact World.ownsRow_nil _ _ _ _, Ch.refl _ _⟩)
    have t1 : (openE d a != 0) = true := by simpa using hop
    clear hop e1 e2 e3 h
    go_enter Tryz.func108, Tryz.ntmps108
    go_wp2_with fail
    refine HO.out.mono ?_
    rintro e w' ⟨rfl, rfl⟩
    go_wp2
    go_ret2
    exact HP.out
end Go.Proofs.YteleknojohnlbaaGreat
namespace Go.Proofs.YteleknojohnlbaaGreat
open Go.RowKit
set_option linter.unusedVariables false
set_option maxRecDepth 100000
theorem foot_n {p : Ph} {d d' : Dev} (e : d'.n = d.n) {i : Nat} : Foot p d' i ↔ Foot p d i := by unfold Foot; rw [e]
theorem info_write : (Tryz.prog.info? 121).map (fun i => (i.zero, i.size, i.bytes)) = some (some (.agg (wtC ⟨0, fun _ => 0⟩).toArray), 257, 264) := by kernel_rfl
theorem under_writes : Tryz.prog.underlying 116 = some (.slice 121) := by kernel_rfl
theorem wtC_arr (x : Wt) : (wtC x).toArray.size = 257 := by simp [wtC_len]
theorem zero_write (w : World) : (zeroValue 121).run Tryz.prog w = .ok (.agg (wtC ⟨0, fun _ => 0⟩).toArray) w := by
  obtain ⟨i0, hi, hz0, hz1, hz2⟩ := info_parts info_write
  simp [zeroValue, typeInfo, hi, hz0]
theorem app_wt {base : Nat} {w : World} {v : Value} {L : List Wt} {x : Wt} {ad : Addr} {C : Nat} (ho : w.ownsRow base 121 257 v L.length (wtsL L)) (hb : base ≤ w.heap.size) (hx : ∀ j u, (wtC x)[j]? = some u → w.cell? (ad.add j) = some u) (hl : L.length ≤ 1048576) :
    ∃ g cap w', (Builtin.append_ #[ 116, 116] 116 #[v, .slice (some ad) 1 C]).run Tryz.prog w = .ok (.slice (some ⟨g, 0, none⟩) (L.length + 1) cap) w' ∧ w'.ownsRow base 121 257 (.slice (some ⟨g, 0, none⟩) (L.length + 1) cap) (L ++ [x]).length (wtsL (L ++ [x])) ∧ w.grownBy w' v.ownBlock ∧ (v.ownBlock = some g ∨ g = w.heap.size) := by
  obtain ⟨i0, hi, hz0, hz1, hz2⟩ := info_parts info_write
  obtain ⟨g, cap, w', hr, h2, h3, h4, _⟩ := run_append_lies (P := Tryz.prog) w 116 116 base 121 i0 _ 257 264 under_writes hi hz0 hz1 hz2 (wtC_arr _) (by omega) v L.length (wtsL L) ho ad 1 C (wtC x) (by rw [wtC_len]) hx (wtC_one x) (by omega) (by unfold maxLen; omega) (by omega) hb _ rfl
  refine ⟨g, cap, w', hr, ?_, h3, h4⟩
  rw [wtsL_snoc, List.length_append, List.length_singleton]
  exact h2
theorem fill_one (cs old : Array Value) (n : Nat) (h : cs.size = n) (h2 : old.size = n) (hp : 0 < n) : Instr.fill (fun i => some (i * n, n)) old [(0, .agg cs)] = some cs := by
  have := Great.fill_whole hp [.agg cs] old (fun v hv => by rw [List.mem_singleton.1 hv]; exact h) (by simp; omega)
  simpa [Value.cells] using this
theorem slice_one (w : World) (x : Wt) : (Instr.buildSlice 116 1 #[(0, .agg (wtC x).toArray)]).run Tryz.prog w = .ok (.slice (some ⟨w.heap.size, 0, none⟩) 1 1) (w.alloc (.cells (wtC x).toArray 121)) := by
  obtain ⟨i0, hi, hz0, hz1, hz2⟩ := info_parts info_write
  refine run_buildSlice (P := Tryz.prog) w _ _ 1 _ _ i0 _ under_writes hi hz0 (by rw [hz1]; omega) (by rw [hz1]; omega) ?_
  rw [hz1]
  exact fill_one _ _ 257 (wtC_arr x) (by simp) (by omega)
theorem built_write (a : Int) (w : World) : (Instr.build 121 #[(0, .int .i64 a)]).run Tryz.prog w = .ok (.agg (Value.int .i64 a :: bytesL 256 (fun _ => 0)).toArray) w := run_build w _ _ _ (by kernel_rfl)
theorem wpList_building1 {P : Program} {ops : Array Oper} {rest : List Oper} {o : Oper} {a : Act} {Q : Exit → Act → World → Prop} (w : World) (hgd : o.guard = none) (t : TypeId) (i : Nat) (x : Operand) (ho : o.op = .build t #[(i, x)]) (u v : Value) (hx : a.eval x = u) (hr : (Instr.build t #[(i, u)]).run P w = .ok v w)
    (h : wpList P ops Q rest (a.put o.dst v) w) : wpList P ops Q (o :: rest) a w := by
  refine wpList_plain hgd fun K hK => ?_
  unfold Oper.wp execOp
  simp only [ho, hx, Sem.run_bind, Sem.run_pure, Result.andThen_ok, hr, List.map_toArray, List.map_cons, List.map_nil]
  exact hK _ _ h
theorem wpList_slicing1 {P : Program} {ops : Array Oper} {rest : List Oper} {o : Oper} {a : Act} {Q : Exit → Act → World → Prop} (w w' : World) (hgd : o.guard = none) (t : TypeId) (i : Nat) (n : Nat) (x : Operand) (ho : o.op = .buildSlice t n #[(i, x)]) (u v : Value) (hx : a.eval x = u) (hr : (Instr.buildSlice t n #[(i, u)]).run P w = .ok v w')
    (h : wpList P ops Q rest (a.put o.dst v) w') : wpList P ops Q (o :: rest) a w := by
  refine wpList_plain hgd fun K hK => ?_
  unfold Oper.wp execOp
  simp only [ho, hx, Sem.run_bind, Sem.run_pure, Result.andThen_ok, hr, List.map_toArray, List.map_cons, List.map_nil]
  exact hK _ _ h
theorem wpList_appW {ops : Array Oper} {rest : List Oper} {o : Oper} {a : Act} {Q : Exit → Act → World → Prop} (w : World) (hgd : o.guard = none) (s x : Operand)
    (ho : o.op = .call { callee := .builtin .append, args := #[s, x], argTypes := #[ 116, 116] }) (hty : o.type = 116) (sv xv v' : Value) (w' : World) (hs : a.eval s = sv) (hx : a.eval x = xv)
    (hrun : (Builtin.append_ #[ 116, 116] 116 #[sv, xv]).run Tryz.prog w = .ok v' w') (h : wpList Tryz.prog ops Q rest (a.put o.dst v') w') : wpList Tryz.prog ops Q (o :: rest) a w := by
  refine wpList_plain hgd fun _ hK => ?_
  unfold Oper.wp execOp
  simp only [ho, hty, resolve, invoke, builtin, Sem.run_bind, Sem.run_pure, Result.andThen_ok, List.map_toArray, List.map_cons, List.map_nil, hs, hx, hrun]
  exact hK _ _ h
theorem step_appW {ops : Array Oper} {o : Oper} {a : Act} {w : World} {K : Act → World → Prop} {Q : Exit → Act → World → Prop} {E : Prop} (hg : o.guard = none) (s x : Operand)
    (hop : o.op = Op.call { callee := Callee.builtin Builtin.append, args := #[s, x], argTypes := #[ 116, 116] }) (hty : o.type = 116) (sv xv v' : Value) (w' : World) (hs : a.eval s = sv) (hx : a.eval x = xv)
    (hrun : (Builtin.append_ #[ 116, 116] 116 #[sv, xv]).run Tryz.prog w = .ok v' w') (hK : K (a.put o.dst v') w') : if Region.wanted o (yielded ops a.tmps) = true then Oper.wp Tryz.prog o a w K Q else E := by
  have hw : Region.wanted o (yielded ops a.tmps) = true := by simp [Region.wanted, hg]
  rw [if_pos hw]
  unfold Oper.wp
  simp only [execOp, hop, hty, resolve, invoke, builtin, Sem.run_bind, Sem.run_pure, Result.andThen_ok, List.map_toArray, List.map_cons, List.map_nil, hs, hx, hrun]
  exact hK
theorem step_slicing1 {P : Program} {ops : Array Oper} {o : Oper} {a : Act} {w : World} {K : Act → World → Prop} {Q : Exit → Act → World → Prop} {E : Prop} (hg : o.guard = none) (t : TypeId) (i : Nat) (n : Nat) (x : Operand) (ho : o.op = .buildSlice t n #[(i, x)]) (u v : Value) (w' : World) (hx : a.eval x = u)
    (hr : (Instr.buildSlice t n #[(i, u)]).run P w = .ok v w') (hK : K (a.put o.dst v) w') : if Region.wanted o (yielded ops a.tmps) = true then Oper.wp P o a w K Q else E := by
  have hw : Region.wanted o (yielded ops a.tmps) = true := by simp [Region.wanted, hg]
  rw [if_pos hw]
  unfold Oper.wp
  simp only [execOp, ho, hx, Sem.run_bind, Sem.run_pure, Result.andThen_ok, hr, List.map_toArray, List.map_cons, List.map_nil]
  exact hK
section
variable {base : Nat} {w w' : World} {p : Ph} {d : Dev}
theorem DevIs.turnW (h : DevIs base w p d) {V' : Value} {W' : List Wt} (k : Ch (fun i => i = p.B ∨ p.V.ownBlock = some i) w w') (hb : w'.heap[p.B]? = some (.cells (devC { p with V := V' } { d with W := W' }) 118 (0, 0)))
    (hw : w'.ownsRow base 121 257 V' W'.length (wtsL W')) (hok : ∀ x ∈ W', x.pl < d.n ∧ Bytes 256 x.z) : DevIs base w' { p with V := V' } { d with W := W' } :=
  ⟨hb, h.sec.of_block (k.block _ h.sec.lt (fun e => e.elim (fun e => h.BG e.symm) h.GV)), hw, fun a ha => (h.ms a ha).of (fun i hi => k.block i (h.foot (Or.inr (Or.inr (Or.inr ⟨a, ha, hi⟩)))).2 (fun e => e.elim (fun e => h.BM ha (e ▸ hi)) (fun e => h.VM ha e hi))),
    h.inj, h.lowB, h.lowG, h.lowM, h.byt, hok, h.mok, h.nn, h.lf⟩
theorem foot_turnW {V' : Value} {W' : List Wt} (n : Nat) (ho : ∀ i, V'.ownBlock = some i → p.V.ownBlock = some i ∨ n ≤ i) : ∀ i, Foot { p with V := V' } { d with W := W' } i → Foot p d i ∨ n ≤ i := by
  intro i hi
  rcases hi with hi | hi | hi | hi
  · exact Or.inl (Or.inl hi)
  · exact Or.inl (Or.inr (Or.inl hi))
  · rcases ho i hi with e | e
    · exact Or.inl (Or.inr (Or.inr (Or.inl e)))
    · exact Or.inr e
  · exact Or.inl (Or.inr (Or.inr (Or.inr hi)))
end
end Go.Proofs.YteleknojohnlbaaGreat
