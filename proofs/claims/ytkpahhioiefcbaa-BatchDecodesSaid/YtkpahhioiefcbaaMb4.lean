/-
  (*code.Out).put, walked: the digits of a number come behind. What an Out is. (*code.Out).Num, Int, Bytes and All, walked.
-/
import Derived.Test.YtkpahhioiefcbaaMb3
namespace Go.Proofs.Ytkpahhioiefcbaa
open Go.RowKit Go.Shelf Cod
set_option linter.unusedVariables false
set_option maxRecDepth 100000
attribute [local go_sem] Oper.semAt_some wide_fn wide_depth

/-! ### an Out: a block with a row of one's own -/
structure OutIs (base : Nat) (w : World) (B : Nat) (v : Value) (L : List Nat) : Prop where
  box : Boxed w B 66 v
  own : w.ownsRow base /-t-/5 1 v L.length (bytesL L.length (Cod.litZ L))
  low : base ≤ B
  byt : ∀ x ∈ L, x < 256
/-- Its blocks. -/
def FootO (B : Nat) (v : Value) (i : Nat) : Prop := i = B ∨ v.ownBlock = some i
theorem OutIs.ne {base B : Nat} {w : World} {v : Value} {L : List Nat} (h : OutIs base w B v L) : some B ≠ v.ownBlock := h.box.not_row (by decide) h.own
theorem OutIs.cell {base B : Nat} {w : World} {v : Value} {L : List Nat} (h : OutIs base w B v L) : w.cell? ⟨B, 0, none⟩ = some v := h.box.cell
theorem OutIs.foot {base B : Nat} {w : World} {v : Value} {L : List Nat} (h : OutIs base w B v L) {i : Nat} (hi : FootO B v i) : base ≤ i := by
  rcases hi with rfl | hi
  · exact h.low
  · exact (World.ownsRow.lt h.own i hi).1
theorem OutIs.ch {base B : Nat} {w w' : World} {v : Value} {L : List Nat} {S : Nat → Prop} (h : OutIs base w B v L) (k : Ch S w w') (hS : ∀ i, FootO B v i → ¬ S i) : OutIs base w' B v L := by
  refine ⟨(k.block B h.box.lt (hS B (Or.inl rfl))).trans h.box, ⟨h.own.1, ?_⟩, h.low, h.byt⟩
  rcases h.own.2 with hn | ⟨g, cap, cur, rfl, hb, hgg, rest⟩
  · exact Or.inl hn
  · exact Or.inr ⟨g, cap, cur, rfl, hb, (k.block g (Array.getElem?_eq_some_iff.1 hgg).1 (hS g (Or.inr rfl))).trans hgg, rest⟩
theorem OutIs.rowV {base B : Nat} {w : World} {v : Value} {L : List Nat} (h : OutIs base w B v L) (hL : L.length ≤ 1048576) : RowV w v L.length (Cod.litZ L) := ownsRow_rowV h.own (by omega) (fun c _ => litZ_b h.byt c)
/-- The answer of a call that lays something behind. -/
def PutPost (base B : Nat) (v : Value) (L : List Nat) (r : Value) (w : World) (e : Ending) (w' : World) : Prop :=
  e = .returned r ∧ ∃ v', OutIs base w' B v' L ∧ (v'.ownBlock = v.ownBlock ∨ ∀ i, v'.ownBlock = some i → w.heap.size ≤ i) ∧ Ch (FootO B v) w w'
theorem nil_out (base : Nat) (w : World) (h : base ≤ w.heap.size) : OutIs base (w.alloc (.cells #[.slice none 0 0] 66)) w.heap.size (.slice none 0 0) [] :=
  ⟨Boxed.new w _ _, World.ownsRow_nil _ _ _ _, h, fun x hx => by cases hx⟩

/-! ### put -/
theorem putI_row {base B : Nat} {v : Value} {L : List Nat} {W : World} {o : Obj} (h : OutIs base W B v L) : (W.drew.alloc o).ownsRow base /-t-/5 1 v L.length (bytesL L.length (Cod.litZ L)) := ownsRow_ch h.own ((Ch.refl _ W).drew.allocO o)
/-- A step of a region that draws: append, by its run. -/
theorem step_bytes_of {ops : Array Oper} {o : Oper} {a : Act} {w : World} {K : Act → World → Prop} {Q : Exit → Act → World → Prop} {E : Prop} (hg : o.guard = none) (s x : Operand)
    (hop : o.op = Op.call { callee := Callee.builtin Builtin.append, args := #[s, x], argTypes := #[ /-t-/22, /-t-/22] }) (hty : o.type = /-t-/22) (sv xv v' : Value) (w' : World) (hs : a.eval s = sv) (hx : a.eval x = xv)
    (hrun : (Builtin.append_ #[ /-t-/22, /-t-/22] /-t-/22 #[sv, xv]).run Try.prog w = .ok v' w') (hK : K (a.put o.dst v') w') : if Region.wanted o (yielded ops a.tmps) = true then Oper.wp Try.prog o a w K Q else E := by
  have hw : Region.wanted o (yielded ops a.tmps) = true := by simp [Region.wanted, hg]
  rw [if_pos hw]
  unfold Oper.wp
  simp only [execOp, hop, hty, resolve, invoke, builtin, Sem.run_bind, Sem.run_pure, Result.andThen_ok, List.map_toArray, List.map_cons, List.map_nil, hs, hx, hrun]
  exact hK
theorem snoc_lit (l m : List Nat) (x : Nat) (h : m = l ++ [x]) : bytesL (l.length + 1) (jnZ l.length (Cod.litZ l) (fun _ => x)) = bytesL m.length (Cod.litZ m) := by
  subst h
  rw [List.length_append, show [x].length = 1 from rfl]
  refine bytesL_congr fun c hc => ?_
  rw [← litZ_app]
  unfold jnZ
  split
  · rfl
  · rw [show c - l.length = 0 by omega]; rfl
theorem x_row (W : World) (x : Byte) : RowV (W.alloc (.cells #[.int .u8 (x.1 : Int)] /-t-/5)) (.slice (some ⟨W.heap.size, 0, none⟩) 1 1) 1 (fun _ => x.1) := by
  refine ⟨_, _, rfl, by omega, fun _ => ⟨_, _, rfl, fun c hc => ⟨?_, x.2⟩⟩⟩
  rw [cell_of_row _ _ _ _ _ (0, 0) (heap_alloc_new W _)]
  obtain rfl : c = 0 := by omega
  rfl
/-- Between two rounds. -/
def PutI (base B : Nat) (v : Value) (L : List Nat) (w : World) (pre : List Byte) (W : World) : Prop :=
  Boxed W w.heap.size 69 (.pointer (some ⟨B, 0, none⟩)) ∧ ∃ v', OutIs base W B v' (L ++ raw pre) ∧ (v'.ownBlock = v.ownBlock ∨ ∀ i, v'.ownBlock = some i → w.heap.size ≤ i) ∧ Ch (FootO B v) w W
theorem putI_own (base B : Nat) (v : Value) (L : List Nat) (w : World) (k : Nat) (hk : w.heap.size ≤ k) : OwnFrom k (PutI base B v L w) := by
  rintro s X Y row ⟨hb, v', ho, hv, hch⟩ hg hr
  have hcells : ∀ j c t f, X.heap[j]? = some (.cells c t f) → some j ≠ row := fun j c t f hj e => by
    obtain ⟨_, o, ho, hc⟩ := hr j e.symm
    rw [hj] at ho
    cases ho
    cases hc
  refine ⟨hb.kept hg (hcells _ _ _ _ hb), v', ⟨ho.box.kept hg (hcells _ _ _ _ ho.box), ho.own.kept hg ?_, ho.low, ho.byt⟩, hv, hch.grown hg (fun i e => Or.inr (Nat.le_trans hk (hr i e).1))⟩
  rcases ho.own.2 with ⟨rfl, _⟩ | ⟨g, cap, cur, rfl, _, hgb, _⟩
  · exact Or.inl rfl
  · exact Or.inr (fun e => hcells g _ _ _ hgb (by simpa [Value.ownBlock] using e))
set_option maxHeartbeats 1000000 in
set_option maxRecDepth 100000 in
theorem put_any (base B n : Nat) (v : Value) (L : List Nat) (w : World) (hn : n < 18446744073709551616) (h : OutIs base w B v L) (hb : base ≤ w.heap.size) (hL : L.length ≤ 1000000) :
    Calls Try.prog 49 #[.pointer (some ⟨B, 0, none⟩), .int .u64 (n : Int)] w (PutPost base B v (L ++ digs n) (.tuple #[]) w) := by
  have HN := Lib.hid hn
  have HO := Lib.hid h
  have HL : Hid (∀ pre : List Byte, pre.length < (digs n).length → (L ++ raw pre).length ≤ 1000010) := fun pre hp => by have := digs_len10 HN.out; simp [raw]; omega
  clear hn h
  refine (callsIn_wide (n := 9)).1 ?_
  refine callsIn_of_wp_marks Try.func49 rfl trivial ?_ rfl
  simp only [Try.ntmps49, List.size_toArray, List.length_cons, List.length_nil, Nat.reduceAdd, Nat.reduceSub, Array.replicate_succ, Array.replicate_zero, List.push_toArray, List.append_toArray, List.nil_append, List.cons_append]
  gi_wp2_with (gi_at_call 60; refine (callsIn_wide.2 (digits_any n _)).mono ?_; rintro e w' ⟨rfl, rfl⟩)
  have bN := Boxed.new (w.alloc (.cells #[.pointer (some ⟨B, 0, none⟩)] 69)) 74 (.int .u64 (n : Int))
  have bO := (Boxed.new w 69 (.pointer (some ⟨B, 0, none⟩))).alloc (.cells #[.int .u64 (n : Int)] 74)
  rw [World.size_alloc] at bN
  refine wpIn_rangeFunc_ownG rfl (by omega) (gf := 71) (lb := #[.pointer (some ⟨w.heap.size + 1, 0, none⟩)]) rfl trivial (enters_of Try.func71 (by kernel_rfl) rfl)
    (digs_stops 8 (by omega) (w.heap.size + 1) n HN.out _ (by simp) bN.cell) (fun _ _ => trivial) (fun _ _ _ _ _ _ _ _ => trivial) (Below.refl _ _) (fun _ => rfl)
    (PutI base B v L w) (fun _ _ _ => False) (putI_own base B v L w _ (by simp; omega)) (fun _ _ _ _ _ hs _ _ => hs)
    ⟨bO, v, ?start, Or.inl rfl, ((Ch.refl _ w).alloc _ _).alloc _ _⟩
    (fun x => { tmps := #[.pointer (some ⟨B, 0, none⟩), .int .u64 (n : Int), .pointer (some ⟨w.heap.size, 0, none⟩), undef, .int .u8 (x.1 : Int), .int .u64 (n : Int), .func (.func 71) #[] #[.pointer (some ⟨w.heap.size + 1, 0, none⟩)], .int .u8 (x.1 : Int), undef, undef, undef, undef, undef, undef, undef, undef, undef, undef], defers := [] }) ?assign ?body ?done ?stop
  case start =>
    rw [show raw [] = [] from rfl, List.append_nil]
    exact HO.out.ch (((Ch.refl (fun _ => False) w).alloc _ _).alloc _ _) (fun _ _ f => f)
  case assign =>
    intro l x W K hK
    gi_wp2
    exact hK
  case body =>
    rintro l pre x W ⟨hBx, v', ho, hv, hch⟩ hlen
    obtain ⟨v2, W2, hr2, ho2, hg2, hv2⟩ := app_row (w := W.drew.alloc (.cells #[.int .u8 (x.1 : Int)] /-t-/5)) (putI_row ho) (by simp; have := hch.size; omega) (x_row W.drew x) (by have := HL.out pre hlen; omega)
    rw [show bytesL ((L ++ raw pre).length + 1) (jnZ (L ++ raw pre).length (Cod.litZ (L ++ raw pre)) (fun _ => x.1)) = bytesL (L ++ raw (pre ++ [x])).length (Cod.litZ (L ++ raw (pre ++ [x]))) from snoc_lit _ _ _ (by rw [raw_snoc, List.append_assoc])] at ho2
    obtain ⟨g2, C2, rfl⟩ := ownsRow_succ ho2
    have ho2' : W2.ownsRow base /-t-/5 1 (.slice (some ⟨g2, 0, none⟩) ((L ++ raw pre).length + 1) C2) (L ++ raw (pre ++ [x])).length (bytesL (L ++ raw (pre ++ [x])).length (Cod.litZ (L ++ raw (pre ++ [x])))) := by
      have e : (L ++ raw (pre ++ [x])).length = (L ++ raw pre).length + 1 := by rw [raw_snoc]; simp; omega
      rw [e] at ho2 ⊢
      exact ho2
    obtain ⟨hb1, hb2, hb3, hb4, _⟩ := Boxed.appended (W := W.drew) (show Boxed W.drew B 66 v' from ho.box) (by decide) (show W.drew.ownsRow base /-t-/5 1 v' _ _ from ho.own) (show base ≤ W.heap.size by have := hch.size; omega) ho.low ho2' hg2
    have HB2 := Lib.hid hb2
    have HB3 := Lib.hid hb3
    have HB4 := Lib.hid ((KeepsOthers.drew W).trans hb4)
    have HCH := Lib.hid (((hch.drew.allocO (.cells #[.int .u8 (x.1 : Int)] /-t-/5)).grown hg2 (fun i e => by
      rcases hv with q | q
      · exact Or.inl (Or.inr (q ▸ e))
      · exact Or.inr (q i e))).setCell (p := ⟨B, 0, none⟩) (Or.inl (Or.inl rfl)) (.slice (some ⟨g2, 0, none⟩) ((L ++ raw pre).length + 1) C2))
    have hBB : B < w.heap.size := HO.out.box.lt
    have hBx2 : Boxed W2 w.heap.size 69 (.pointer (some ⟨B, 0, none⟩)) := ((show Boxed W.drew w.heap.size _ _ from hBx).alloc _).kept hg2 ((show Boxed W.drew w.heap.size _ _ from hBx).not_row (by decide) (show W.drew.ownsRow base /-t-/5 1 v' _ _ from ho.own))
    have HBX := Lib.hid (hBx2.kept (grownBy_setCell' W2 B (.slice (some ⟨g2, 0, none⟩) ((L ++ raw pre).length + 1) C2)) (fun e => by injection e with e; omega))
    have HV := Lib.hid (show (Value.slice (some ⟨g2, 0, none⟩) ((L ++ raw pre).length + 1) C2).ownBlock = v.ownBlock ∨ ∀ i, (Value.slice (some ⟨g2, 0, none⟩) ((L ++ raw pre).length + 1) C2).ownBlock = some i → w.heap.size ≤ i by
      rcases hv2 with q | q
      · rw [q]; exact hv
      · refine Or.inr fun i e => ?_
        rw [q] at e
        injection e with e
        have := hch.size
        simp at e
        omega)
    have HBY := Lib.hid (show ∀ y ∈ L ++ raw (pre ++ [x]), y < 256 from fun y hy => by
      rw [raw_snoc, ← List.append_assoc] at hy
      rcases List.mem_append.1 hy with hy | hy
      · exact ho.byt y hy
      · have : y = x.1 := by simpa using hy
        rw [this]; exact x.2)
    have HLO := Lib.hid ho.low
    have hbx := hBx.cell
    have hbc := ho.cell
    have hbx2 := hBx2.cell
    have hbc2 := hb1.cell
    have hfr2 := hb1.frozen
    have HX3 := Lib.hid HBX.out.cell
    have HR := Lib.hid (show (Builtin.append_ #[ /-t-/22, /-t-/22] /-t-/22 #[v', .slice (some ⟨W.heap.size, 0, none⟩) 1 1]).run Try.prog (W.alloc (.cells #[.int .u8 (x.1 : Int)] /-t-/5)).drew = .ok (.slice (some ⟨g2, 0, none⟩) ((L ++ raw pre).length + 1) C2) W2 from hr2)
    obtain ⟨V, hV⟩ : ∃ V, V = (L ++ raw pre).length + 1 := ⟨_, rfl⟩
    rw [← hV] at HB2 HB3 HB4 HCH HBX HX3 HR HV
    clear hr2 ho2 ho2' hg2 hv2 hb1 hb2 hb3 hb4 ho hv hch hBx hBx2 hBB hV hL
    gi_wp2
    refine wpIn_round_held (fun W' => W'.cell? ⟨w.heap.size, 0, none⟩ = some (.pointer (some ⟨B, 0, none⟩))) (by kernel_rfl) (by kernel_rfl) (fun ⟨_, _, h⟩ => h) ?_
    change wpAnyH _ _ _ _ _ _ _ _ (World.drew _)
    have HS : (fun W' : World => W'.cell? ⟨w.heap.size, 0, none⟩ = some (.pointer (some ⟨B, 0, none⟩))) W.drew := hbx
    have HS1 : (fun W' : World => W'.cell? ⟨w.heap.size, 0, none⟩ = some (.pointer (some ⟨B, 0, none⟩))) (W.alloc (.cells #[.int .u8 (x.1 : Int)] /-t-/5)).drew := Lib.cell?_alloc_some _ hbx
    have hbc1 : (W.alloc (.cells #[.int .u8 (x.1 : Int)] /-t-/5)).cell? ⟨B, 0, none⟩ = some v' := Lib.cell?_alloc_some _ hbc
    refine wpAnyH_take (i := 0) (v := .pointer (some ⟨B, 0, none⟩)) rfl (by kernel_rfl) (by kernel_rfl) (by kernel_rfl) (fun _ _ _ h => h) (Or.inl ⟨by rfl, fun w' hS => ?_⟩) HS ?_
    · dsimp only at hS
      go_simp
    refine wpAnyH_take (i := 1) (v := .pointer (some ⟨B, 0, none⟩)) rfl (by kernel_rfl) (by kernel_rfl) (by kernel_rfl) (fun _ _ _ h => h) (Or.inl ⟨by rfl, fun w' hS => ?_⟩) HS ?_
    · dsimp only at hS
      go_simp
    refine wpAnyH_take (i := 2) (v := .pointer (some ⟨B, 0, none⟩)) rfl (by kernel_rfl) (by kernel_rfl) (by kernel_rfl) (fun _ _ _ h => h) (Or.inl ⟨by rfl, fun w' hS => ?_⟩) HS ?_
    · clear hS; go_simp
    refine wpAnyH_take (i := 3) (v := .pointer (some ⟨B, 0, none⟩)) rfl (by kernel_rfl) (by kernel_rfl) (by kernel_rfl) (fun _ _ _ h => h) (Or.inl ⟨by rfl, fun w' hS => ?_⟩) HS ?_
    · clear hS; go_simp
    refine wpAnyH_take (i := 5) (v := .int .u8 (x.1 : Int)) rfl (by kernel_rfl) (by kernel_rfl) (by kernel_rfl) (fun _ _ _ h => h) (Or.inl ⟨by rfl, fun w' hS => ?_⟩) HS ?_
    · clear hS; go_simp
    change wpAnyH Try.prog .any _ _ _ 6 #[true, true, true, true, false, true, false, false, false, false, false] { tmps := #[.pointer (some ⟨B, 0, none⟩), .int .u64 (n : Int), .pointer (some ⟨w.heap.size, 0, none⟩), undef, .int .u8 (x.1 : Int), .int .u64 (n : Int), .func (.func 71) #[] #[.pointer (some ⟨w.heap.size + 1, 0, none⟩)], .int .u8 (x.1 : Int), .pointer (some ⟨B, 0, none⟩), .pointer (some ⟨B, 0, none⟩), .pointer (some ⟨B, 0, none⟩), .pointer (some ⟨B, 0, none⟩), undef, .int .u8 (x.1 : Int), undef, undef, undef, undef], defers := [] } W.drew
    refine wpAnyH_ready (rs := [4, 6]) (by kernel_rfl) (by simp) ?_
    refine AllReadyH.cons rfl (fun K hK => ?_) (AllReadyH.cons rfl (fun K hK => ?_) AllReadyH.nil)
    · go_simp
      refine hK.out _ _ HS (fun _ => ?_)
      clear hK K
      refine wpAnyH_ready (rs := [6]) (by kernel_rfl) (by simp) ?_
      refine AllReadyH.cons rfl (fun K hK => ?_) AllReadyH.nil
      go_simp
      refine hK.out _ _ HS1 (fun _ => ?_)
      clear hK K
      refine wpAnyH_ready (rs := [7]) (by kernel_rfl) (by simp) ?_
      refine AllReadyH.cons rfl (fun K hK => ?_) AllReadyH.nil
      refine step_bytes_of rfl (.tmp 12) (.tmp 14) rfl rfl _ _ (.slice (some ⟨g2, 0, none⟩) V C2) W2 rfl rfl HR.out ?_
      refine hK.out _ _ hbx2 (fun _ => ?_)
      clear hK K
      refine wpAnyH_ready (rs := [8]) (by kernel_rfl) (by simp) ?_
      refine AllReadyH.cons rfl (fun K hK => ?_) AllReadyH.nil
      go_simp
      refine hK.out _ _ hbx2 (fun _ => ?_)
      clear hK K
      refine wpAnyH_ready (rs := [9]) (by kernel_rfl) (by simp) ?_
      refine AllReadyH.cons rfl (fun K hK => ?_) AllReadyH.nil
      go_simp
      refine hK.out _ _ hbx2 (fun _ => ?_)
      clear hK K
      refine wpAnyH_ready (rs := [10]) (by kernel_rfl) (by simp) ?_
      refine AllReadyH.cons rfl (fun K hK => ?_) AllReadyH.nil
      go_simp
      refine hK.out _ _ HX3.out (fun _ => ?_)
      clear hK K
      refine wpAnyH_done (by kernel_rfl) ?_ _
      exact ⟨HB4.out.from _, trivial, HBX.out, _, ⟨HB2.out, HB3.out, HLO.out, HBY.out⟩, HV.out, HCH.out⟩
    · go_simp
      refine hK.out _ _ HS1 (fun _ => ?_)
      clear hK K
      refine wpAnyH_ready (rs := [4]) (by kernel_rfl) (by simp) ?_
      refine AllReadyH.cons rfl (fun K hK => ?_) AllReadyH.nil
      go_simp
      refine hK.out _ _ HS1 (fun _ => ?_)
      clear hK K
      refine wpAnyH_ready (rs := [7]) (by kernel_rfl) (by simp) ?_
      refine AllReadyH.cons rfl (fun K hK => ?_) AllReadyH.nil
      refine step_bytes_of rfl (.tmp 12) (.tmp 14) rfl rfl _ _ (.slice (some ⟨g2, 0, none⟩) V C2) W2 rfl rfl HR.out ?_
      refine hK.out _ _ hbx2 (fun _ => ?_)
      clear hK K
      refine wpAnyH_ready (rs := [8]) (by kernel_rfl) (by simp) ?_
      refine AllReadyH.cons rfl (fun K hK => ?_) AllReadyH.nil
      go_simp
      refine hK.out _ _ hbx2 (fun _ => ?_)
      clear hK K
      refine wpAnyH_ready (rs := [9]) (by kernel_rfl) (by simp) ?_
      refine AllReadyH.cons rfl (fun K hK => ?_) AllReadyH.nil
      go_simp
      refine hK.out _ _ hbx2 (fun _ => ?_)
      clear hK K
      refine wpAnyH_ready (rs := [10]) (by kernel_rfl) (by simp) ?_
      refine AllReadyH.cons rfl (fun K hK => ?_) AllReadyH.nil
      go_simp
      refine hK.out _ _ HX3.out (fun _ => ?_)
      clear hK K
      refine wpAnyH_done (by kernel_rfl) ?_ _
      exact ⟨HB4.out.from _, trivial, HBX.out, _, ⟨HB2.out, HB3.out, HLO.out, HBY.out⟩, HV.out, HCH.out⟩
  case done =>
    rintro D ys W hD hys hI hK
    gi_wp2
    refine ⟨by simp, .inl ⟨_, _, rfl, run_takeDeferred hK, ?_⟩⟩
    obtain ⟨_, v', ho, hv, hch⟩ := (putI_own base B v L w w.heap.size (Nat.le_refl _)).putObj (.deferred none) hI (by simp at hD; omega) hK rfl
    rw [hys] at ho
    exact ⟨_, results_none rfl _ _ _, rfl, v', ho, hv, hch⟩
  case stop =>
    rintro D c pre W _ _ hf _
    exact hf.elim
#print axioms put_any
end Go.Proofs.Ytkpahhioiefcbaa
namespace Go.Proofs.Ytkpahhioiefcbaa
open Go.RowKit Go.Shelf Cod
set_option linter.unusedVariables false
set_option maxRecDepth 100000

/-! ### rows that lie off some blocks -/
def Off (S : Nat → Prop) (x : Value) : Prop := ∀ b o n C, x = .slice (some ⟨b, o, none⟩) (n + 1) C → ¬ S b
theorem Off.mono {S T : Nat → Prop} {x : Value} (h : Off S x) (k : ∀ i, T i → S i) : Off T x := fun b o n C e t => h b o n C e (k b t)
theorem RowV.off {S : Nat → Prop} {w w' : World} {x : Value} {l : Nat} {z : Nat → Nat} (h : RowV w x l z) (k : Ch S w w') (hS : Off S x) : RowV w' x l z := by
  obtain ⟨A, C, rfl, h2, h3⟩ := h
  refine ⟨A, C, rfl, h2, fun hl => ?_⟩
  obtain ⟨b, o, rfl, hc⟩ := h3 hl
  refine ⟨b, o, rfl, fun c hcl => ⟨k.cell (hc c hcl).1 ?_, (hc c hcl).2⟩⟩
  obtain ⟨n, rfl⟩ : ∃ n, l = n + 1 := ⟨l - 1, by omega⟩
  exact hS b o n C rfl
theorem RowV.low {w : World} {x : Value} {l : Nat} {z : Nat → Nat} (h : RowV w x l z) : Off (fun i => w.heap.size ≤ i) x := fun b o n C e t => by
  obtain ⟨A, D, e1, _, h3⟩ := h
  rw [e] at e1
  injection e1 with e1 e2 _
  obtain ⟨b', o', e4, hc⟩ := h3 (by omega)
  rw [← e1] at e4
  injection e4 with e4
  injection e4 with e5 e6
  have := World.block_lt_of_cell? _ _ (hc 0 (by omega)).1
  simp at this
  omega
def rowL (l : Nat) (z : Nat → Nat) : List Nat := (List.range l).map z
theorem rowL_len (l : Nat) (z : Nat → Nat) : (rowL l z).length = l := by simp [rowL]
theorem rowL_b {l : Nat} {z : Nat → Nat} (h : Bytes l z) : ∀ x ∈ rowL l z, x < 256 := fun x hx => by
  obtain ⟨c, hc, rfl⟩ := List.mem_map.1 hx
  exact h c (List.mem_range.1 hc)
theorem app_lit (L : List Nat) (l : Nat) (z : Nat → Nat) : bytesL (L.length + l) (jnZ L.length (Cod.litZ L) z) = bytesL (L ++ rowL l z).length (Cod.litZ (L ++ rowL l z)) := by
  rw [List.length_append, rowL_len]
  refine bytesL_congr fun c hc => ?_
  rw [← litZ_app]
  unfold jnZ
  split
  · rfl
  · exact (litZ_range l z (by omega)).symm

/-! ### Num, Int -/
set_option maxHeartbeats 400000 in
theorem onum_nil (n : Int) (w : World) : Calls Try.prog 32 #[.pointer none, .int .i64 n] w fun e w' => e = .returned (.int .i64 1) ∧ w = w' := by
  go_enter Try.func32, Try.ntmps32
  go_wp2
  go_ret
  exact ⟨rfl, rfl⟩
set_option maxHeartbeats 400000 in
theorem onum_neg (ad : Addr) (n : Int) (hn : n < 0) (w : World) : Calls Try.prog 32 #[.pointer (some ad), .int .i64 n] w fun e w' => e = .returned (.int .i64 1) ∧ w = w' := by
  have t1 : decide (n < 0) = true := by simpa using hn
  go_enter Try.func32, Try.ntmps32
  go_wp2
  go_ret
  exact ⟨rfl, rfl⟩
set_option maxHeartbeats 400000 in
theorem onum_any (base B n : Nat) (v : Value) (L : List Nat) (w : World) (hn : n ≤ 9223372036854775807) (h : OutIs base w B v L) (hb : base ≤ w.heap.size) (hL : L.length ≤ 1000000) :
    Calls Try.prog 32 #[.pointer (some ⟨B, 0, none⟩), .int .i64 (n : Int)] w (PutPost base B v (L ++ digs n) (.int .i64 0) w) := by
  have H := Lib.hid (put_any base B n v L w (by omega) h hb hL)
  have t1 : decide ((n : Int) < 0) = false := by simp
  clear h
  go_enter Try.func32, Try.ntmps32
  go_wp2_with fail
  refine H.out.mono ?_
  rintro e w' ⟨rfl, h⟩
  have HH := Lib.hid h
  clear h
  go_wp2
  go_ret
  exact ⟨rfl, HH.out⟩
#print axioms onum_any
/-! ### Bytes -/
set_option maxHeartbeats 400000 in
theorem obytes_nil (x : Value) (w : World) : Calls Try.prog 50 #[.pointer none, x] w fun e w' => e = .returned (.int .i64 1) ∧ w = w' := by
  go_enter Try.func50, Try.ntmps50
  go_wp2
  go_ret
  exact ⟨rfl, rfl⟩
set_option maxHeartbeats 400000 in
theorem obytes_long (ad : Addr) (A : Option Addr) (l C : Nat) (hl : 4096 < l) (hl2 : l ≤ 140737488351232) (w : World) : Calls Try.prog 50 #[.pointer (some ad), .slice A l C] w fun e w' => e = .returned (.int .i64 2) ∧ w = w' := by
  have t1 : decide ((4096 : Int) < (l : Int)) = true := by simp; omega
  go_enter Try.func50, Try.ntmps50
  go_wp2
  go_ret
  exact ⟨rfl, rfl⟩
/-- What bytes are laid as. -/
def byL (l : Nat) (z : Nat → Nat) : List Nat := digs l ++ rowL l z
theorem byL_app (L : List Nat) (l : Nat) (z : Nat → Nat) : L ++ digs l ++ rowL l z = L ++ byL l z := List.append_assoc _ _ _
theorem byL_len {l : Nat} (h : l ≤ 4096) (z : Nat → Nat) : (byL l z).length ≤ 4106 := by
  unfold byL
  have := digs_len10 (n := l) (by omega)
  rw [List.length_append, rowL_len]
  omega
set_option maxHeartbeats 1000000 in
theorem obytes_any (base B l C : Nat) (A : Option Addr) (z : Nat → Nat) (v : Value) (L : List Nat) (w : World) (hl : l ≤ 4096) (h : OutIs base w B v L) (hx : RowV w (.slice A l C) l z) (ho : Off (FootO B v) (.slice A l C)) (hb : base ≤ w.heap.size) (hL : L.length ≤ 1000000) :
    Calls Try.prog 50 #[.pointer (some ⟨B, 0, none⟩), .slice A l C] w (PutPost base B v (L ++ byL l z) (.int .i64 0) w) := by
  have H := Lib.hid (put_any base B l v L w (by omega) h hb hL)
  have HX := Lib.hid (show Off (FootO B v) (.slice A l C) ∧ RowV w (.slice A l C) l z from ⟨ho, hx⟩)
  have HO := Lib.hid h
  have t1 : decide ((4096 : Int) < (l : Int)) = false := by simp; omega
  clear h hx ho
  go_enter Try.func50, Try.ntmps50
  go_wp2_with fail
  refine H.out.mono ?_
  rintro e w1 ⟨rfl, v1, h1, hv1, hch1⟩
  have hx1 := HX.out.2.off hch1 HX.out.1
  have hlen : (L ++ digs l).length ≤ 1000010 := by have := digs_len10 (n := l) (by omega); simp; omega
  obtain ⟨v2, w2, hr2, ho2, hg2, hv2⟩ := app_row h1.own (by have := hch1.size; omega) hx1 (by omega)
  rw [app_lit] at ho2
  obtain ⟨m1, hm1⟩ : ∃ m, (L ++ digs l).length = m + 1 := ⟨(L ++ digs l).length - 1, by have := digs_pos l; simp; omega⟩
  have hm2 : (L ++ digs l ++ rowL l z).length = m1 + l + 1 := by rw [List.length_append, hm1, rowL_len]; omega
  obtain ⟨g1, C1, rfl⟩ := ownsRow_succ (k := m1) (by have := h1.own; rw [hm1] at this; exact this)
  obtain ⟨g2, C2, rfl⟩ := ownsRow_succ (k := m1 + l) (by rw [show m1 + l + 1 = (L ++ digs l).length + l by omega]; exact ho2)
  have hb1 : Boxed w2 B 66 (.slice (some ⟨g1, 0, none⟩) (m1 + 1) C1) := h1.box.kept hg2 h1.ne
  have hch2 : Ch (FootO B v) w w2 := hch1.grown hg2 (fun i e => by
    rcases hv1 with q | q
    · exact Or.inl (Or.inr (q ▸ e))
    · exact Or.inr (q i e))
  have HB := Lib.hid (hb1.set (.slice (some ⟨g2, 0, none⟩) (m1 + l + 1) C2))
  have ho2' : w2.ownsRow base /-t-/5 1 (.slice (some ⟨g2, 0, none⟩) (m1 + l + 1) C2) (L ++ digs l ++ rowL l z).length (bytesL (L ++ digs l ++ rowL l z).length (Cod.litZ (L ++ digs l ++ rowL l z))) := by
    have e : (L ++ digs l ++ rowL l z).length = (L ++ digs l).length + l := by rw [List.length_append, rowL_len]
    rw [e] at ho2 ⊢; exact ho2
  have HW := Lib.hid (ho2'.kept (grownBy_setCell' w2 B (.slice (some ⟨g2, 0, none⟩) (m1 + l + 1) C2)) (Or.inr (hb1.not_row (by decide) ho2').symm))
  have HC := Lib.hid (hch2.setCell (p := ⟨B, 0, none⟩) (Or.inl (Or.inl rfl)) (.slice (some ⟨g2, 0, none⟩) (m1 + l + 1) C2))
  have HV := Lib.hid (show (Value.slice (some ⟨g2, 0, none⟩) (m1 + l + 1) C2).ownBlock = v.ownBlock ∨ ∀ i, (Value.slice (some ⟨g2, 0, none⟩) (m1 + l + 1) C2).ownBlock = some i → w.heap.size ≤ i by
    rcases hv2 with q | q
    · rw [q]; exact hv1
    · refine Or.inr fun i e => ?_
      rw [q] at e
      injection e with e
      have := hch1.size
      omega)
  have HBY := Lib.hid (show ∀ y ∈ L ++ digs l ++ rowL l z, y < 256 from fun y hy => by
    rcases List.mem_append.1 hy with hy | hy
    · exact h1.byt y hy
    · exact rowL_b hx1.bytes y hy)
  have HR := Lib.hid hr2
  rw [byL_app] at HW HBY
  have c1 := h1.cell
  have c2 := hb1.cell
  have f2 := hb1.frozen
  clear hr2 ho2 ho2' hg2 hv2 hv1 h1 hch1 hch2 hb1 hx1 hm1 hm2 hlen
  go_wp2_with (at_builtin; refine wpList_app_of _ rfl (.tmp 19) (.tmp 20) rfl rfl _ _ (.slice (some ⟨g2, 0, none⟩) (m1 + l + 1) C2) w2 rfl rfl HR.out ?_)
  go_ret
  exact ⟨rfl, _, ⟨HB.out, HW.out, HO.out.low, HBY.out⟩, HV.out, HC.out⟩
#print axioms obytes_any

/-! ### All -/
set_option maxHeartbeats 400000 in
theorem all_nil (w : World) : Calls Try.prog 34 #[.pointer none] w fun e w' => e = .returned (.slice none 0 0) ∧ w = w' := by
  go_enter Try.func34, Try.ntmps34
  go_wp2
  go_ret
  exact ⟨rfl, rfl⟩
set_option maxHeartbeats 400000 in
theorem all_any (base B : Nat) (v : Value) (L : List Nat) (w : World) (h : OutIs base w B v L) (hL : L.length ≤ 1048576) : Calls Try.prog 34 #[.pointer (some ⟨B, 0, none⟩)] w (NewL L.length (Cod.litZ L) w) := by
  have hr := h.rowV hL
  have c1 := h.cell
  obtain ⟨A, C, rfl, _⟩ := id hr
  have HR := Lib.hid (clone_any A L.length C (Cod.litZ L) w hr hL)
  clear hr h
  go_enter Try.func34, Try.ntmps34
  go_wp2_with fail
  refine HR.out.mono ?_
  rintro e w' ⟨x, rfl, h1, h2⟩
  have H1 := Lib.hid h1
  have H2 := Lib.hid h2
  clear h1 h2
  go_wp2
  go_ret
  exact ⟨_, rfl, H1.out, H2.out⟩
#print axioms all_any
end Go.Proofs.Ytkpahhioiefcbaa
