/-
  What waits: a write behind the others; (*disk.Disk).Write, walked. (*disk.Disk).Flush, Crash, settle, walked.
-/
import Derived.Test.YteleknojohnlbaaGreatMg5
import Derived.Great.BuildSlice
import Derived.Great.FillDense
import Derived.Deep.AppendLies
import Derived.Deep.WholeRow
namespace Go.Proofs.YteleknojohnlbaaGreat
open Go.RowKit
set_option linter.unusedVariables false
set_option maxRecDepth 100000

/-! ### a write behind the others -/
theorem foot_n {p : Ph} {d d' : Dev} (e : d'.n = d.n) {i : Nat} : Foot p d' i ↔ Foot p d i := by unfold Foot; rw [e]
theorem info_write : (Tryz.prog.info? 121).map (fun i => (i.zero, i.size, i.bytes)) = some (some (.agg (wtC ⟨0, fun _ => 0⟩).toArray), 257, 264) := by kernel_rfl
theorem under_writes : Tryz.prog.underlying 116 = some (.slice 121) := by kernel_rfl
theorem wtC_arr (x : Wt) : (wtC x).toArray.size = 257 := by simp [wtC_len]
theorem zero_write (w : World) : (zeroValue 121).run Tryz.prog w = .ok (.agg (wtC ⟨0, fun _ => 0⟩).toArray) w := by
  obtain ⟨i0, hi, hz0, hz1, hz2⟩ := info_parts info_write
  simp [zeroValue, typeInfo, hi, hz0]
theorem app_wt {base : Nat} {w : World} {v : Value} {L : List Wt} {x : Wt} {ad : Addr} {C : Nat} (ho : w.ownsRow base 121 257 v L.length (wtsL L)) (hb : base ≤ w.heap.size) (hx : ∀ j u, (wtC x)[j]? = some u → w.cell? (ad.add j) = some u) (hl : L.length ≤ 1048576) :
    ∃ g cap w', (Builtin.append_ #[ 116, 116] 116 #[v, .slice (some ad) 1 C]).run Tryz.prog w = .ok (.slice (some ⟨g, 0, none⟩) (L.length + 1) cap) w' ∧ w'.ownsRow base 121 257 (.slice (some ⟨g, 0, none⟩) (L.length + 1) cap) (L ++ [x]).length (wtsL (L ++ [x])) ∧ w.grownBy w' v.ownBlock ∧ (v.ownBlock = some g ∨ g = w.heap.size) := by
  obtain ⟨i0, hi, hz0, hz1, hz2⟩ := info_parts info_write
  obtain ⟨g, cap, w', hr, h2, h3, h4, _⟩ := run_append_lies (P := Tryz.prog) w 116 116 base 121 i0 _ 257 264 under_writes hi hz0 hz1 hz2 (wtC_arr _) (by omega) v L.length (wtsL L) ho ad 1 C (wtC x) (by rw [wtC_len]) hx (wtC_one x) (by omega) (by unfold maxLen; omega) (by omega) hb _ rfl
  refine ⟨g, cap, w', hr, ?_, h3, h4⟩
  rw [wtsL_snoc, List.length_append, List.length_singleton]
  exact h2
theorem fill_one (cs old : Array Value) (n : Nat) (h : cs.size = n) (h2 : old.size = n) (hp : 0 < n) : Instr.fill (fun i => some (i * n, n)) old [(0, .agg cs)] = some cs := by
  have := Great.fill_whole hp [.agg cs] old (fun v hv => by rw [List.mem_singleton.1 hv]; exact h) (by simp; omega)
  simpa [Value.cells] using this
theorem slice_one (w : World) (x : Wt) : (Instr.buildSlice 116 1 #[(0, .agg (wtC x).toArray)]).run Tryz.prog w = .ok (.slice (some ⟨w.heap.size, 0, none⟩) 1 1) (w.alloc (.cells (wtC x).toArray 121)) := by
  obtain ⟨i0, hi, hz0, hz1, hz2⟩ := info_parts info_write
  refine run_buildSlice (P := Tryz.prog) w _ _ 1 _ _ i0 _ under_writes hi hz0 (by rw [hz1]; omega) (by rw [hz1]; omega) ?_
  rw [hz1]
  exact fill_one _ _ 257 (wtC_arr x) (by simp) (by omega)
theorem built_write (a : Int) (w : World) : (Instr.build 121 #[(0, .int .i64 a)]).run Tryz.prog w = .ok (.agg (Value.int .i64 a :: bytesL 256 (fun _ => 0)).toArray) w := run_build w _ _ _ (by kernel_rfl)
theorem wpList_building1 {P : Program} {ops : Array Oper} {rest : List Oper} {o : Oper} {a : Act} {Q : Exit → Act → World → Prop} (w : World) (hgd : o.guard = none) (t : TypeId) (i : Nat) (x : Operand) (ho : o.op = .build t #[(i, x)]) (u v : Value) (hx : a.eval x = u) (hr : (Instr.build t #[(i, u)]).run P w = .ok v w)
    (h : wpList P ops Q rest (a.put o.dst v) w) : wpList P ops Q (o :: rest) a w := by
  refine wpList_plain hgd fun K hK => ?_
  unfold Oper.wp execOp
  simp only [ho, hx, Sem.run_bind, Sem.run_pure, Result.andThen_ok, hr, List.map_toArray, List.map_cons, List.map_nil]
  exact hK _ _ h
theorem wpList_slicing1 {P : Program} {ops : Array Oper} {rest : List Oper} {o : Oper} {a : Act} {Q : Exit → Act → World → Prop} (w w' : World) (hgd : o.guard = none) (t : TypeId) (i : Nat) (n : Nat) (x : Operand) (ho : o.op = .buildSlice t n #[(i, x)]) (u v : Value) (hx : a.eval x = u) (hr : (Instr.buildSlice t n #[(i, u)]).run P w = .ok v w')
    (h : wpList P ops Q rest (a.put o.dst v) w') : wpList P ops Q (o :: rest) a w := by
  refine wpList_plain hgd fun K hK => ?_
  unfold Oper.wp execOp
  simp only [ho, hx, Sem.run_bind, Sem.run_pure, Result.andThen_ok, hr, List.map_toArray, List.map_cons, List.map_nil]
  exact hK _ _ h
theorem wpList_appW {ops : Array Oper} {rest : List Oper} {o : Oper} {a : Act} {Q : Exit → Act → World → Prop} (w : World) (hgd : o.guard = none) (s x : Operand)
    (ho : o.op = .call { callee := .builtin .append, args := #[s, x], argTypes := #[ 116, 116] }) (hty : o.type = 116) (sv xv v' : Value) (w' : World) (hs : a.eval s = sv) (hx : a.eval x = xv)
    (hrun : (Builtin.append_ #[ 116, 116] 116 #[sv, xv]).run Tryz.prog w = .ok v' w') (h : wpList Tryz.prog ops Q rest (a.put o.dst v') w') : wpList Tryz.prog ops Q (o :: rest) a w := by
  refine wpList_plain hgd fun _ hK => ?_
  unfold Oper.wp execOp
  simp only [ho, hty, resolve, invoke, builtin, Sem.run_bind, Sem.run_pure, Result.andThen_ok, List.map_toArray, List.map_cons, List.map_nil, hs, hx, hrun]
  exact hK _ _ h
theorem step_appW {ops : Array Oper} {o : Oper} {a : Act} {w : World} {K : Act → World → Prop} {Q : Exit → Act → World → Prop} {E : Prop} (hg : o.guard = none) (s x : Operand)
    (hop : o.op = Op.call { callee := Callee.builtin Builtin.append, args := #[s, x], argTypes := #[ 116, 116] }) (hty : o.type = 116) (sv xv v' : Value) (w' : World) (hs : a.eval s = sv) (hx : a.eval x = xv)
    (hrun : (Builtin.append_ #[ 116, 116] 116 #[sv, xv]).run Tryz.prog w = .ok v' w') (hK : K (a.put o.dst v') w') : if Region.wanted o (yielded ops a.tmps) = true then Oper.wp Tryz.prog o a w K Q else E := by
  have hw : Region.wanted o (yielded ops a.tmps) = true := by simp [Region.wanted, hg]
  rw [if_pos hw]
  unfold Oper.wp
  simp only [execOp, hop, hty, resolve, invoke, builtin, Sem.run_bind, Sem.run_pure, Result.andThen_ok, List.map_toArray, List.map_cons, List.map_nil, hs, hx, hrun]
  exact hK
theorem step_slicing1 {P : Program} {ops : Array Oper} {o : Oper} {a : Act} {w : World} {K : Act → World → Prop} {Q : Exit → Act → World → Prop} {E : Prop} (hg : o.guard = none) (t : TypeId) (i : Nat) (n : Nat) (x : Operand) (ho : o.op = .buildSlice t n #[(i, x)]) (u v : Value) (w' : World) (hx : a.eval x = u)
    (hr : (Instr.buildSlice t n #[(i, u)]).run P w = .ok v w') (hK : K (a.put o.dst v) w') : if Region.wanted o (yielded ops a.tmps) = true then Oper.wp P o a w K Q else E := by
  have hw : Region.wanted o (yielded ops a.tmps) = true := by simp [Region.wanted, hg]
  rw [if_pos hw]
  unfold Oper.wp
  simp only [execOp, ho, hx, Sem.run_bind, Sem.run_pure, Result.andThen_ok, hr, List.map_toArray, List.map_cons, List.map_nil]
  exact hK
section
variable {base : Nat} {w w' : World} {p : Ph} {d : Dev}
/-- What waits turns, and the device's own block with it. -/
theorem DevIs.turnW (h : DevIs base w p d) {V' : Value} {W' : List Wt} (k : Ch (fun i => i = p.B ∨ p.V.ownBlock = some i) w w') (hb : w'.heap[p.B]? = some (.cells (devC { p with V := V' } { d with W := W' }) 118 (0, 0)))
    (hw : w'.ownsRow base 121 257 V' W'.length (wtsL W')) (hok : ∀ x ∈ W', x.pl < d.n ∧ Bytes 256 x.z) : DevIs base w' { p with V := V' } { d with W := W' } :=
  ⟨hb, h.sec.of_block (k.block _ h.sec.lt (fun e => e.elim (fun e => h.BG e.symm) h.GV)), hw, fun a ha => (h.ms a ha).of (fun i hi => k.block i (h.foot (Or.inr (Or.inr (Or.inr ⟨a, ha, hi⟩)))).2 (fun e => e.elim (fun e => h.BM ha (e ▸ hi)) (fun e => h.VM ha e hi))),
    h.inj, h.lowB, h.lowG, h.lowM, h.byt, hok, h.mok, h.nn, h.lf⟩
theorem foot_turnW {V' : Value} {W' : List Wt} (n : Nat) (ho : ∀ i, V'.ownBlock = some i → p.V.ownBlock = some i ∨ n ≤ i) : ∀ i, Foot { p with V := V' } { d with W := W' } i → Foot p d i ∨ n ≤ i := by
  intro i hi
  rcases hi with hi | hi | hi | hi
  · exact Or.inl (Or.inl hi)
  · exact Or.inl (Or.inr (Or.inl hi))
  · rcases ho i hi with e | e
    · exact Or.inl (Or.inr (Or.inr (Or.inl e)))
    · exact Or.inr e
  · exact Or.inl (Or.inr (Or.inr (Or.inr hi)))
theorem chW : Ch (fun i => i = p.B ∨ p.V.ownBlock = some i) w w' → Ch (Foot p d) w w' := fun k => k.mono fun i _ e => e.elim Or.inl (fun e => Or.inr (Or.inr (Or.inl e)))
end
#print axioms app_wt
#print axioms slice_one
#print axioms built_write
end Go.Proofs.YteleknojohnlbaaGreat
namespace Go.Proofs.YteleknojohnlbaaGreat
open Go.RowKit
set_option linter.unusedVariables false
set_option maxRecDepth 100000

/-! ### what waits is done -/
def finAll (d : Dev) (L : List Wt) : Dev := L.foldl finD d
theorem finAll_n (L : List Wt) : ∀ d : Dev, (finAll d L).n = d.n := by
  induction L with
  | nil => exact fun _ => rfl
  | cons x r ih => exact fun d => ih (finD d x)
theorem finAll_W (L : List Wt) : ∀ d : Dev, (finAll d L).W = d.W := by
  induction L with
  | nil => exact fun _ => rfl
  | cons x r ih => exact fun d => ih (finD d x)
theorem finAll_snoc (d : Dev) (L : List Wt) (x : Wt) : finAll d (L ++ [x]) = finD (finAll d L) x := by unfold finAll; rw [List.foldl_append]; rfl
theorem take_snoc {W : List Wt} {k : Nat} {x : Wt} (h : W[k]? = some x) : W.take (k + 1) = W.take k ++ [x] := by rw [List.take_add_one, h]; rfl
/-- A write that waits is laid into a variable of its own. -/
structure WtR (wr wz wx : World) (H g k : Nat) (x : Wt) : Prop where
  ld : (loadVar 121 ⟨g, k * 257, none⟩).run Tryz.prog wr = .ok (.agg (wtC x).toArray) wr
  al : wr.alloc (.cells (wtC ⟨0, fun _ => 0⟩).toArray 121) = wz
  sz : wr.heap.size = H
  st : (storeVar 121 ⟨H, 0, none⟩ (.agg (wtC x).toArray)).run Tryz.prog wz = .ok () wx
  l2 : (loadVar 121 ⟨H, 0, none⟩).run Tryz.prog wx = .ok (.agg (wtC x).toArray) wx
  cx : wx.heap[H]? = some (.cells (wtC x).toArray 121 (0, 0))
  ch : Ch (fun _ => False) wr wx
theorem wtR {base : Nat} {wr : World} {p : Ph} {d : Dev} (h : DevIs base wr p d) {k : Nat} {x : Wt} (hk : d.W[k]? = some x) : ∃ wz wx H g cap, p.V = .slice (some ⟨g, 0, none⟩) d.W.length cap ∧ WtR wr wz wx H g k x := by
  obtain ⟨g, cap, hv, hr⟩ := h.wt hk
  refine ⟨_, wr.alloc (.cells (wtC x).toArray 121), wr.heap.size, g, cap, hv, ?_, rfl, rfl, ?_, ?_, heap_alloc_new _ _, (Ch.refl _ wr).alloc _ _⟩
  · obtain ⟨dsc, hd, hr2⟩ := under_wt
    exact run_loadVar_mid wr g (k * 257) _ (wtC x) dsc hr hd hr2 (info_wt x)
  · exact run_storeVar_new (P := Tryz.prog) wr _ _ _ (by rw [List.size_toArray]; exact info_wt x) (by rw [wtC_arr, wtC_arr]) (all_oneCell_toArray (wtC_one x))
  · obtain ⟨dsc, hd, hr2⟩ := under_wt
    exact run_loadVar_mid _ _ 0 _ (wtC x) dsc (fun j v hj => by rw [Nat.zero_add, alloc_cell, List.getElem?_toArray]; exact hj) hd hr2 (info_wt x)
theorem nilW {base : Nat} {w : World} {p : Ph} {d : Dev} (h : DevIs base w p d) : DevIs base (w.setCell ⟨p.B, 1, none⟩ (.slice none 0 0)) { p with V := .slice none 0 0 } { d with W := [] } :=
  h.turnW (Ch.setCell (S := fun i => i = p.B ∨ p.V.ownBlock = some i) (Ch.refl _ w) (p := ⟨p.B, 1, none⟩) (Or.inl (Or.inl rfl)) _) (blk_set h.blk _) (World.ownsRow_nil _ _ _ _) (fun x hx => by cases hx)
theorem nilW_post {base : Nat} {w0 w : World} {p : Ph} {d0 d : Dev} {r : Value} (h : DevIs base w p d) (hn : d.n = d0.n) (k : Ch (Foot p d0) w0 w) : DPost base p d0 { d with W := [] } r w0 (.returned r) (w.setCell ⟨p.B, 1, none⟩ (.slice none 0 0)) :=
  ⟨rfl, { p with V := .slice none 0 0 }, rfl, nilW h, fun i hi => Or.inl ((foot_n hn).1 (by
    rcases hi with hi | hi | hi | hi
    · exact Or.inl hi
    · exact Or.inr (Or.inl hi)
    · cases hi
    · exact Or.inr (Or.inr (Or.inr hi)))), k.setCell (p := ⟨p.B, 1, none⟩) (Or.inl (Or.inl rfl)) _⟩
def flushE (d : Dev) : Int := if d.dead || diesB d then 21 else 0
def flushD (d : Dev) : Dev := if d.dead then d else if diesB d then diesD d else { finAll (diesD d) d.W with W := [] }
theorem diesD_W (d : Dev) : (diesD d).W = d.W ∧ (diesD d).n = d.n := by
  unfold diesD
  split
  · split <;> exact ⟨rfl, rfl⟩
  · exact ⟨rfl, rfl⟩
set_option maxHeartbeats 400000 in
theorem flush_nil (w : World) : Calls Tryz.prog 61 #[.pointer none] w fun e w' => e = .returned (.int .i64 21) ∧ w = w' := by
  go_enter Tryz.func61, Tryz.ntmps61
  go_wp2_with fail
  refine (dead_nil _).mono ?_
  rintro e w1 ⟨rfl, rfl⟩
  go_wp2
  go_ret
  exact ⟨rfl, rfl⟩
set_option maxHeartbeats 800000 in
set_option maxRecDepth 100000 in
theorem flush_any (base : Nat) (p : Ph) (d : Dev) (w : World) (h : DevIs base w p d) (hW : d.W.length ≤ 1048576) :
    Calls Tryz.prog 61 #[.pointer (some ⟨p.B, 0, none⟩)] w (DPost base p d (flushD d) (.int .i64 (flushE d)) w) := by
  have HD := Lib.hid (dead_any base p d w h)
  have HY := Lib.hid (dies_any base p d w h)
  cases hd : d.dead
  · rw [hd] at HD
    cases hy : diesB d
    · have HS := Lib.hid (show flushE d = 0 ∧ flushD d = { finAll (diesD d) (diesD d).W with W := [] } by unfold flushE flushD; rw [hd, hy, (diesD_W d).1]; exact ⟨rfl, rfl⟩)
      rw [hy] at HY
      rw [HS.out.1, HS.out.2]
      have hWL : (diesD d).W.length = d.W.length := by rw [(diesD_W d).1]
      have HN := Lib.hid (diesD_W d).2
      clear h hd hy HS
      obtain ⟨d1, hd1⟩ : ∃ d1, d1 = diesD d := ⟨_, rfl⟩
      rw [← hd1] at HY HN hWL ⊢
      rw [← hWL] at hW
      clear hWL hd1
      go_enter Tryz.func61, Tryz.ntmps61
      go_wp2_with fail
      refine HD.out.mono ?_
      rintro e w' ⟨rfl, rfl⟩
      go_wp2_with fail
      refine HY.out.mono ?_
      rintro e w1 ⟨rfl, h1, hc1⟩
      obtain ⟨A, C, hv⟩ := h1.vform
      have c1 : w1.cell? ⟨p.B, 1, none⟩ = some p.V := h1.cellB 1
      rw [hv] at c1
      obtain ⟨L, hL⟩ : ∃ L, L = d1.W.length := ⟨_, rfl⟩
      rw [← hL] at c1 hv hW
      have HV := Lib.hid hv
      have HL := Lib.hid hL
      have H1 := Lib.hid h1
      have HC1 := Lib.hid (show Ch (Foot p d) w w1 from hc1)
      obtain ⟨B, G, V, m, cG⟩ := p
      clear h1 hc1 hv hL HD HY
      go_wp2_with fail
      go_loopw [16] (fun i wr => ∃ k : Nat, k ≤ L ∧ i = .int .i64 k ∧ Hid (DevIs base wr ⟨B, G, V, m, cG⟩ (finAll d1 (d1.W.take k)) ∧ Ch (Foot ⟨B, G, V, m, cG⟩ d) w wr)) (fun i _ => L - (intOf i).toNat)
      case atStart => exact ⟨0, Nat.zero_le _, rfl, Lib.hid ⟨H1.out, HC1.out⟩⟩
      case round =>
        obtain ⟨k, hk, rfl, HK⟩ := hrel
        by_cases hlt : k < L
        · obtain ⟨x, hx⟩ : ∃ x, d1.W[k]? = some x := ⟨_, List.getElem?_eq_getElem (by rw [← HL.out]; exact hlt)⟩
          obtain ⟨wz, wx, H, g, cap, hv, hR⟩ := wtR HK.out.1 (k := k) (x := x) (by rw [finAll_W]; exact hx)
          rw [finAll_W, ← HL.out] at hv
          have hv2 := HV.out.symm.trans hv
          injection hv2 with q1 q2 q3
          subst q1
          subst q3
          have HR := Lib.hid hR
          have HX := Lib.hid hx
          have hxk := H1.out.wok x (List.mem_of_getElem? hx)
          have hdx : DevIs base wx ⟨B, G, V, m, cG⟩ (finAll d1 (d1.W.take k)) := HK.out.1.gr hR.ch
          have HF := Lib.hid (finish_any base _ _ x wx hdx (by rw [finAll_n]; exact hxk.1) hxk.2)
          have i1 : (0 : Int) ≤ (k : Int) := Int.natCast_nonneg _
          have i2 : (k : Int) < (L : Int) := by omega
          clear hv q2 hR hx hxk hdx
          go_wp2_with (first
            | ((with_reducible refine wpList_same ?_); first
            | refine wpList_loading _ rfl 121 (.tmp 18) rfl (.agg (wtC x).toArray) ⟨g, k * 257, none⟩ rfl (by exact HR.out.ld) ?_
            | refine wpList_making _ wz rfl 121 rfl (wtC ⟨0, fun _ => 0⟩).toArray H (by exact zero_write _) (by exact HR.out.sz) (by exact HR.out.al) ?_
            | refine wpList_storing _ wx rfl 121 (.tmp 4) (.tmp 19) rfl (.agg (wtC x).toArray) ⟨H, 0, none⟩ rfl rfl (by exact HR.out.st) ?_
            | refine wpList_loading _ rfl 121 (.tmp 4) rfl (.agg (wtC x).toArray) ⟨H, 0, none⟩ rfl (by exact HR.out.l2) ?_)
            | (go_at_call 65; refine HF.out.mono ?_; rintro e w2 ⟨rfl, h2, hc2⟩))
          have HK2 := Lib.hid (show DevIs base w2 ⟨B, G, V, m, cG⟩ (finAll d1 (d1.W.take (k + 1))) by rw [take_snoc HX.out, finAll_snoc]; exact h2)
          have HC2 := Lib.hid (show Ch (Foot ⟨B, G, V, m, cG⟩ d) w w2 from (HK.out.2.trans (HR.out.ch.mono fun _ _ f => f.elim)).trans (hc2.mono fun i _ hi => (foot_n (by rw [finAll_n, HN.out])).1 hi))
          clear h2 hc2
          go_wp2
          go_roundw
          case rel => exact ⟨k + 1, by omega, by go_num, Lib.hid ⟨HK2.out, HC2.out⟩⟩
          case measure => simp [intOf]; omega
        · obtain rfl : k = L := by omega
          have f1 := HK.out.1.frB 1
          have c3 : wr.cell? ⟨B, 1, none⟩ = some V := HK.out.1.cellB 1
          have HP := Lib.hid (nilW_post (r := .int .i64 0) HK.out.1 (by rw [finAll_n, HN.out]) HK.out.2)
          rw [HL.out, List.take_length] at HP
          go_wp2
          go_ret
          exact HP.out
    · have HS := Lib.hid (show flushE d = 21 ∧ flushD d = diesD d by unfold flushE flushD; rw [hd, hy]; exact ⟨rfl, rfl⟩)
      rw [hy] at HY
      rw [HS.out.1, HS.out.2]
      clear h hd hy
      go_enter Tryz.func61, Tryz.ntmps61
      go_wp2_with fail
      refine HD.out.mono ?_
      rintro e w' ⟨rfl, rfl⟩
      go_wp2_with fail
      refine HY.out.mono ?_
      rintro e w1 ⟨rfl, h1, hc1⟩
      have HP := Lib.hid (DPost.turned (base := base) (r := .int .i64 21) h1 (diesD_W d).2 hc1)
      clear h1 hc1
      go_wp2
      go_ret
      exact HP.out
  · rw [hd] at HD
    have HS := Lib.hid (show flushE d = 21 ∧ flushD d = d by unfold flushE flushD; rw [hd]; exact ⟨rfl, rfl⟩)
    have HP := Lib.hid (DPost.turned (base := base) (r := .int .i64 21) h rfl (Ch.refl _ w))
    rw [HS.out.1, HS.out.2]
    clear h hd
    go_enter Tryz.func61, Tryz.ntmps61
    go_wp2_with fail
    refine HD.out.mono ?_
    rintro e w' ⟨rfl, rfl⟩
    go_wp2
    go_ret
    exact HP.out
#print axioms flush_any

/-! ### Crash -/
def RowQ (w : World) (v : Value) (m : Nat) (q : Nat → Bool) : Prop :=
  ∃ (A : Option Addr) (C : Nat), v = .slice A m C ∧ m ≤ 9223372036854775807 ∧ (0 < m → ∃ b o, A = some ⟨b, o, none⟩ ∧ ∀ c, c < m → w.cell? ⟨b, o + c, none⟩ = some (.bool (q c)))
theorem RowQ.at {w : World} {A : Option Addr} {m C : Nat} {q : Nat → Bool} (h : RowQ w (.slice A m C) m q) (hm : 0 < m) : ∃ b o, A = some ⟨b, o, none⟩ ∧ ∀ c, c < m → w.cell? ⟨b, o + c, none⟩ = some (.bool (q c)) := by
  obtain ⟨_, _, e, _, h3⟩ := h
  injection e with e _ _
  subst e
  exact h3 hm
def keepB (m : Nat) (q : Nat → Bool) (i : Nat) : Bool := decide (0 < m) && q (i % m)
/-- The first k of what waits, done as far as they are kept. -/
def crTo (d : Dev) (m : Nat) (q : Nat → Bool) : Nat → Dev
  | 0 => d
  | k + 1 => match d.W[k]? with
    | some x => if keepB m q k then finD (crTo d m q k) x else crTo d m q k
    | none => crTo d m q k
theorem crTo_nW (d : Dev) (m : Nat) (q : Nat → Bool) : ∀ k, (crTo d m q k).n = d.n ∧ (crTo d m q k).W = d.W
  | 0 => ⟨rfl, rfl⟩
  | k + 1 => by
    unfold crTo
    cases h : d.W[k]? with
    | none => exact crTo_nW d m q k
    | some x =>
      dsimp only
      split
      · exact crTo_nW d m q k
      · exact crTo_nW d m q k
def crashD (d : Dev) (m : Nat) (q : Nat → Bool) : Dev := { crTo d m q d.W.length with W := [], dead := false, armed := false }
set_option maxHeartbeats 400000 in
theorem crash_nil (v : Value) (w : World) : Calls Tryz.prog 33 #[.pointer none, v] w fun e w' => e = .returned (.tuple #[]) ∧ w = w' := by
  go_enter Tryz.func33, Tryz.ntmps33
  go_wp2
  refine bodyPost_ret (results_none rfl _ _ _) rfl ?_
  exact ⟨rfl, rfl⟩
theorem crash_done {base : Nat} {w0 w : World} {p : Ph} {d0 d : Dev} {r : Value} (h : DevIs base w p d) (hn : d.n = d0.n) (k : Ch (Foot p d0) w0 w) :
    DPost base p d0 { d with W := [], dead := false, armed := false } r w0 (.returned r) (((w.setCell ⟨p.B, 1, none⟩ (.slice none 0 0)).setCell ⟨p.B, 2, none⟩ (.bool false)).setCell ⟨p.B, 3, none⟩ (.bool false)) := by
  obtain ⟨_, p', hp, h1, h2, h3⟩ := nilW_post (r := r) h hn k
  have k2 : Ch (Foot p d0) (w.setCell ⟨p.B, 1, none⟩ (.slice none 0 0)) (((w.setCell ⟨p.B, 1, none⟩ (.slice none 0 0)).setCell ⟨p.B, 2, none⟩ (.bool false)).setCell ⟨p.B, 3, none⟩ (.bool false)) :=
    ((Ch.refl _ _).setCell (p := ⟨p.B, 2, none⟩) (Or.inl (Or.inl rfl)) _).setCell (p := ⟨p.B, 3, none⟩) (Or.inl (Or.inl rfl)) _
  refine ⟨rfl, p', hp, ?_, h2, h3.trans k2⟩
  have := (h1.setDead false).setArmed false
  rw [hp] at this
  exact this
set_option maxHeartbeats 800000 in
set_option maxRecDepth 100000 in
theorem crash_any (base : Nat) (p : Ph) (d : Dev) (A : Option Addr) (n C : Nat) (q : Nat → Bool) (w : World) (h : DevIs base w p d) (hW : d.W.length ≤ 1048576) (hk : RowQ w (.slice A n C) n q) (hkf : ∀ b o, A = some ⟨b, o, none⟩ → 0 < n → ¬ Foot p d b) :
    Calls Tryz.prog 33 #[.pointer (some ⟨p.B, 0, none⟩), .slice A n C] w (DPost base p d (crashD d n q) (.tuple #[]) w) := by
  obtain ⟨A1, C1, hv⟩ := h.vform
  have c1 : w.cell? ⟨p.B, 1, none⟩ = some p.V := h.cellB 1
  rw [hv] at c1
  obtain ⟨L, hL⟩ : ∃ L, L = d.W.length := ⟨_, rfl⟩
  rw [← hL] at c1 hv hW
  have HV := Lib.hid hv
  have HL := Lib.hid hL
  have H0 := Lib.hid h
  have HKQ := Lib.hid hk
  have HKF := Lib.hid hkf
  have hn63 : n ≤ 9223372036854775807 := by obtain ⟨_, _, e, h1, _⟩ := hk; exact h1
  obtain ⟨B, G, V, m, cG⟩ := p
  clear h hv hL hk hkf
  go_enter Tryz.func33, Tryz.ntmps33
  go_wp2_with fail
  go_loopw [4, 5, 13] (fun _ _ i wr => ∃ k : Nat, k ≤ L ∧ i = .int .i64 k ∧ Hid (DevIs base wr ⟨B, G, V, m, cG⟩ (crTo d n q k) ∧ Ch (Foot ⟨B, G, V, m, cG⟩ d) w wr)) (fun _ _ i _ => L - (intOf i).toNat)
  case atStart => exact ⟨0, Nat.zero_le _, rfl, Lib.hid ⟨H0.out, Ch.refl _ _⟩⟩
  case round =>
    obtain ⟨k, hk, rfl, HK⟩ := hrel
    by_cases hlt : k < L
    · obtain ⟨x, hx⟩ : ∃ x, d.W[k]? = some x := ⟨_, List.getElem?_eq_getElem (by rw [← HL.out]; exact hlt)⟩
      obtain ⟨wz, wx, H, g, cap, hv, hR⟩ := wtR HK.out.1 (k := k) (x := x) (by rw [(crTo_nW d n q k).2]; exact hx)
      rw [(crTo_nW d n q k).2, ← HL.out] at hv
      have hv2 := HV.out.symm.trans hv
      injection hv2 with q1 q2 q3
      subst q1
      subst q3
      have HR := Lib.hid hR
      have HX := Lib.hid hx
      have hxk := H0.out.wok x (List.mem_of_getElem? hx)
      have hdx : DevIs base wx ⟨B, G, V, m, cG⟩ (crTo d n q k) := HK.out.1.gr hR.ch
      have hchx : Ch (Foot ⟨B, G, V, m, cG⟩ d) w wx := HK.out.2.trans (hR.ch.mono fun _ _ f => f.elim)
      have HDX := Lib.hid hdx
      have HCX := Lib.hid hchx
      have HF := Lib.hid (finish_any base _ _ x wx hdx (by rw [(crTo_nW d n q k).1]; exact hxk.1) hxk.2)
      have i1 : (0 : Int) ≤ (k : Int) := Int.natCast_nonneg _
      have i2 : (k : Int) < (L : Int) := by omega
      have hcr : crTo d n q (k + 1) = if keepB n q k then finD (crTo d n q k) x else crTo d n q k := by
        conv => lhs; unfold crTo
        rw [hx]
      have HCR := Lib.hid hcr
      by_cases hn : 0 < n
      · obtain ⟨b, o, hA, hcell⟩ := HKQ.out.at hn
        subst hA
        have hmod : k % n < n := Nat.mod_lt _ hn
        have hc := hcell (k % n) hmod
        have cq : wx.cell? ⟨b, o + k % n, none⟩ = some (.bool (q (k % n))) := (World.cell?_of_block (hchx.block b (World.block_lt_of_cell? _ _ hc) (HKF.out b o rfl hn))).trans hc
        have j1 : (0 : Int) < (n : Int) := by omega
        have j3 : (k : Int) % (n : Int) = ((k % n : Nat) : Int) := by omega
        have j4 : (0 : Int) ≤ ((k % n : Nat) : Int) := Int.natCast_nonneg _
        have j5 : ((k % n : Nat) : Int) < (n : Int) := by omega
        have j6 : Int.tmod (k : Int) (n : Int) = ((k % n : Nat) : Int) := by rw [Int.tmod_eq_emod_of_nonneg i1]; omega
        have hkb : keepB n q k = q (k % n) := by unfold keepB; rw [decide_eq_true hn]; rfl
        rw [hkb] at hcr
        obtain ⟨r, hr⟩ : ∃ r, r = k % n := ⟨_, rfl⟩
        rw [← hr] at cq j3 j4 j5 j6 hcr
        clear hmod hc hkb hr hcell HCR hn
        cases hqr : q r
        · rw [hqr] at cq hcr
          have HCR := Lib.hid hcr
          clear hv q2 hR hx hxk hdx hchx hcr hqr HF
          go_wp2_with ((with_reducible refine wpList_same ?_); first
            | refine wpList_loading _ rfl 121 (.tmp 16) rfl (.agg (wtC x).toArray) ⟨g, k * 257, none⟩ rfl (by exact HR.out.ld) ?_
            | refine wpList_making _ wz rfl 121 rfl (wtC ⟨0, fun _ => 0⟩).toArray H (by exact zero_write _) (by exact HR.out.sz) (by exact HR.out.al) ?_
            | refine wpList_storing _ wx rfl 121 (.tmp 5) (.tmp 17) rfl (.agg (wtC x).toArray) ⟨H, 0, none⟩ rfl rfl (by exact HR.out.st) ?_)
          go_roundw
          case rel => exact ⟨k + 1, by omega, by go_num, Lib.hid ⟨by rw [HCR.out]; exact HDX.out, HCX.out⟩⟩
          case measure => simp [intOf]; omega
        · rw [hqr] at cq hcr
          have HCR := Lib.hid hcr
          clear hv q2 hR hx hxk hdx hchx hcr hqr
          go_wp2_with (first
            | ((with_reducible refine wpList_same ?_); first
              | refine wpList_loading _ rfl 121 (.tmp 16) rfl (.agg (wtC x).toArray) ⟨g, k * 257, none⟩ rfl (by exact HR.out.ld) ?_
              | refine wpList_making _ wz rfl 121 rfl (wtC ⟨0, fun _ => 0⟩).toArray H (by exact zero_write _) (by exact HR.out.sz) (by exact HR.out.al) ?_
              | refine wpList_storing _ wx rfl 121 (.tmp 5) (.tmp 17) rfl (.agg (wtC x).toArray) ⟨H, 0, none⟩ rfl rfl (by exact HR.out.st) ?_
              | refine wpList_loading _ rfl 121 (.tmp 5) rfl (.agg (wtC x).toArray) ⟨H, 0, none⟩ rfl (by exact HR.out.l2) ?_)
            | (go_at_call 65; refine HF.out.mono ?_; rintro e w2 ⟨rfl, h2, hc2⟩))
          have HK2 := Lib.hid h2
          have HC2 := Lib.hid (show Ch (Foot ⟨B, G, V, m, cG⟩ d) w w2 from HCX.out.trans (hc2.mono fun i _ hi => (foot_n (crTo_nW d n q k).1).1 hi))
          clear h2 hc2
          go_wp2
          go_roundw
          case rel => exact ⟨k + 1, by omega, by go_num, Lib.hid ⟨by rw [HCR.out]; exact HK2.out, HC2.out⟩⟩
          case measure => simp [intOf]; omega
      · obtain rfl : n = 0 := by omega
        have HCR2 := Lib.hid (show crTo d 0 q (k + 1) = crTo d 0 q k by rw [hcr]; rfl)
        clear hv q2 hR hx hxk hdx hchx hcr HF hn
        go_wp2_with ((with_reducible refine wpList_same ?_); first
          | refine wpList_loading _ rfl 121 (.tmp 16) rfl (.agg (wtC x).toArray) ⟨g, k * 257, none⟩ rfl (by exact HR.out.ld) ?_
          | refine wpList_making _ wz rfl 121 rfl (wtC ⟨0, fun _ => 0⟩).toArray H (by exact zero_write _) (by exact HR.out.sz) (by exact HR.out.al) ?_
          | refine wpList_storing _ wx rfl 121 (.tmp 5) (.tmp 17) rfl (.agg (wtC x).toArray) ⟨H, 0, none⟩ rfl rfl (by exact HR.out.st) ?_)
        go_roundw
        case rel => exact ⟨k + 1, by omega, by go_num, Lib.hid ⟨by rw [HCR2.out]; exact HDX.out, HCX.out⟩⟩
        case measure => simp [intOf]; omega
    · obtain rfl : k = L := by omega
      have f1 := HK.out.1.frB 1
      have f2 := HK.out.1.frB 2
      have f3 := HK.out.1.frB 3
      have c2 : wr.cell? ⟨B, 1, none⟩ = some V := HK.out.1.cellB 1
      have c3 : wr.cell? ⟨B, 2, none⟩ = some (.bool (crTo d n q k).dead) := HK.out.1.cellB 2
      have c4 : wr.cell? ⟨B, 3, none⟩ = some (.bool (crTo d n q k).armed) := HK.out.1.cellB 3
      have hp := crash_done (r := .tuple #[]) HK.out.1 (crTo_nW d n q k).1 HK.out.2
      rw [show ({ crTo d n q k with W := [], dead := false, armed := false } : Dev) = crashD d n q by unfold crashD; rw [← HL.out]] at hp
      have HP := Lib.hid hp
      clear hp
      go_wp2
      go_end0
      exact HP.out
#print axioms crash_any
end Go.Proofs.YteleknojohnlbaaGreat
