/-
  The document's word, fits (quartermasterref11), walked. Groups and sectors of any geometry, by any ints, plainly. Rows of ints in memory: rows that are read, rows of one's own, a number behind them; rows that are handed in, opened. The document's May, Groups, Bears, Ints (quartermasterref08), walked. The document's digits, Num, Int and Bytes (quartermasterref05), walked.
-/
import Derived.Test.YteleknojohnlbaaGreatMk32
import Derived.Test.YteleknojohnlbaaGreatMk20
import Derived.Test.YteleknojohnlbaaGreatMk1
import Derived.Test.YteleknojohnlbaaGreatMk17
namespace Go.Proofs.YteleknojohnlbaaGreat
open Go.RowKit
set_option linter.unusedVariables false
set_option maxRecDepth 100000
set_option linter.unusedSimpArgs false
theorem w11_any (n : Int) (w : World) : Calls Tryz.prog 44 #[.int .i64 n] w fun e w' => e = .returned (.bool (wordS n)) ∧ w = w' := by
  by_cases h1 : 0 ≤ n
  · by_cases h2 : n ≤ 4294967295
    · have HE := Lib.hid (show wordS n = true from inB_true.2 ⟨h1, h2⟩)
      have t1 : decide (0 ≤ n) = true := decide_eq_true h1
      have t2 : decide (n ≤ 4294967295) = true := decide_eq_true h2
      clear h1 h2
      go_enter Tryz.func44, Tryz.ntmps44
      go_wp2
      go_ret
      exact ⟨ret_bool HE.out.symm, rfl⟩
    · have HE := Lib.hid (show wordS n = false from decide_eq_false fun q => h2 q.2)
      have t1 : decide (0 ≤ n) = true := decide_eq_true h1
      have t2 : decide (n ≤ 4294967295) = false := decide_eq_false h2
      clear h1 h2
      go_enter Tryz.func44, Tryz.ntmps44
      go_wp2
      go_ret
      exact ⟨ret_bool HE.out.symm, rfl⟩
  · have HE := Lib.hid (show wordS n = false from decide_eq_false fun q => h1 q.1)
    have t1 : decide (0 ≤ n) = false := decide_eq_false h1
    clear h1
    go_enter Tryz.func44, Tryz.ntmps44
    go_wp2
    go_ret
    exact ⟨ret_bool HE.out.symm, rfl⟩
theorem fits_last (L : List Pn) (a : Pn) (s : Int) (p : Pn) (h : 1 ≤ a.ofn) : fitsP a s p = if p.ch = s then (if p.ep = a.ep then decide (p.fr = a.fr) else (decide (a.ep < p.ep) && decide (p.fr = p.seq))) else false := by
  unfold fitsP goesOn
  rw [if_neg (by omega : ¬ a.ofn = 0)]
set_option maxHeartbeats 6400000 in
theorem r11fits_none (p : Pn) (V : Value) (A : Option Addr) (C : Nat) (s : Int) (w : World) : Calls Tryz.prog 57 #[.agg (pcC p V), .slice A 0 C, .int .i64 s] w (Ans (.bool (fitsP pn0 s p)) w) := by
  obtain ⟨w1, H, hR⟩ := boxR w (pcC p V) 26
  obtain ⟨y0, y1, y2, y3, y4, y5, y6⟩ := pc_x hR.cx
  have HR := Lib.hid hR
  clear hR
  by_cases q1 : p.ch = s
  · have t1 : (p.ch != s) = false := by simpa using q1
    have HE := Lib.hid (show fitsP pn0 s p = true by unfold fitsP goesOn; rw [if_pos q1]; rfl)
    clear q1
    go_enter Tryz.func57, Tryz.ntmps57
    go_wp2_with (first | ((with_reducible refine wpList_isOp (.box 26 (.tmp 0)) rfl ?_); refine wpList_boxing _ w1 rfl 26 (.tmp 0) rfl (pcC p V) H rfl (by exact HR.out.sz) (by exact HR.out.al) ?_))
    go_ret
    exact ⟨ret_bool HE.out.symm, HR.out.ch⟩
  · have t1 : (p.ch != s) = true := by simpa using q1
    have HE := Lib.hid (show fitsP pn0 s p = false by unfold fitsP; rw [if_neg q1])
    clear q1
    go_enter Tryz.func57, Tryz.ntmps57
    go_wp2_with (first | ((with_reducible refine wpList_isOp (.box 26 (.tmp 0)) rfl ?_); refine wpList_boxing _ w1 rfl 26 (.tmp 0) rfl (pcC p V) H rfl (by exact HR.out.sz) (by exact HR.out.al) ?_))
    go_ret
    exact ⟨ret_bool HE.out.symm, HR.out.ch⟩
theorem pv_load {w : World} {A : Option Addr} {C : Nat} {L : List Pv} (h : RwV kdP elP w A C L) {i : Nat} {x : Pv} (hx : L[i]? = some x) : ∃ b o, A = some ⟨b, o, none⟩ ∧ (loadVar 26 ⟨b, o + i * 7, none⟩).run Tryz.prog w = .ok (.agg (pcC x.p x.V)) w := by
  obtain ⟨b, o, hA, hc⟩ := h.at' (by have := (List.getElem?_eq_some_iff.1 hx).1; omega)
  exact ⟨b, o, hA, run_loadVar_mid w b (o + i * 7) _ (pcC x.p x.V).toList _ (fun j v hv => hc i x hx j v hv) Tryz.underlying26 rfl (show _ = some 7 by kernel_rfl)⟩
set_option maxHeartbeats 6400000 in
theorem r11fits_some (p : Pn) (V : Value) (A : Option Addr) (C : Nat) (L : List Pv) (x : Pv) (s : Int) (w : World) (h : RwV kdP elP w A C L) (hx : L[L.length - 1]? = some x) (ho : 1 ≤ x.p.ofn) (hl : L.length ≤ 1000) : Calls Tryz.prog 57 #[.agg (pcC p V), .slice A L.length C, .int .i64 s] w (Ans (.bool (fitsP x.p s p)) w) := by
  obtain ⟨w1, H, hR⟩ := boxR w (pcC p V) 26
  obtain ⟨y0, y1, y2, y3, y4, y5, y6⟩ := pc_x hR.cx
  have hSV : SlV x.V := slV_row (h.rows x (List.mem_of_getElem? hx)).1
  obtain ⟨wz, wx, D, hV⟩ := varPc x.p hSV w1
  obtain ⟨z0, z1, z2, z3, z4, z5, z6⟩ := (pc_x hR.cx).gr hV.ch
  obtain ⟨a0, a1, a2, a3, a4, a5, a6⟩ := pc_x hV.cx
  obtain ⟨b, o, rfl, hld⟩ := pv_load (h.gr hR.ch) hx
  have hlt := (List.getElem?_eq_some_iff.1 hx).1
  obtain ⟨M, hM⟩ : ∃ M, M = L.length - 1 := ⟨_, rfl⟩
  rw [← hM] at hld
  obtain ⟨n, hn⟩ : ∃ n, n = L.length := ⟨_, rfl⟩
  rw [← hn] at hM hlt hl ⊢
  obtain ⟨O, hO⟩ : ∃ O, O = o + M * 7 := ⟨_, rfl⟩
  rw [← hO] at hld
  have HO := Lib.hid hO.symm
  have HLD := Lib.hid hld
  have HR := Lib.hid hR
  have HV := Lib.hid hV
  have e1 : wrap64 ((n : Int) - 1) = (M : Int) := by rw [IntWalk.wrap64_in _ ⟨by omega, by omega⟩]; omega
  have e0 : ((n : Int) == 0) = false := by
    have : ¬ (n : Int) = 0 := by omega
    simpa using this
  have i1 : (0 : Int) ≤ (M : Int) := Int.natCast_nonneg _
  have i2 : (M : Int) < (n : Int) := by omega
  have HF := Lib.hid (fits_last (L.map Pv.p) x.p s p ho)
  clear hR hV hld hO hx hlt h hSV hM hn ho hl
  by_cases q1 : p.ch = s
  · have t1 : (p.ch != s) = false := by simpa using q1
    by_cases q3 : p.ep = x.p.ep
    · have t3 : (p.ep == x.p.ep) = true := by simpa using q3
      have HE := Lib.hid (show fitsP x.p s p = (p.fr == x.p.fr) by rw [HF.out, if_pos q1, if_pos q3]; rfl)
      clear q1 q3
      go_enter Tryz.func57, Tryz.ntmps57
      go_wp2_with (first
        | ((with_reducible refine wpList_isOp (.box 26 (.tmp 0)) rfl ?_); refine wpList_boxing _ w1 rfl 26 (.tmp 0) rfl (pcC p V) H rfl (by exact HR.out.sz) (by exact HR.out.al) ?_)
        | ((with_reducible refine wpList_isOp (.load 26 (.tmp 19)) rfl ?_); refine wpList_loading _ rfl 26 (.tmp 19) rfl (.agg (pcC x.p x.V)) ⟨b, O, none⟩ (by have hO := HO.out; go_simp) (by exact HLD.out) ?_)
        | ((with_reducible refine wpList_isOp (.alloc 26) rfl ?_); refine wpList_making _ wz rfl 26 rfl (pcC pn0 (.slice none 0 0)) D (zero_pc _) (by exact HV.out.sz) (by exact HV.out.al) ?_)
        | ((with_reducible refine wpList_isOp (.store 26 (.tmp 7) (.tmp 20)) rfl ?_); refine wpList_storing _ wx rfl 26 (.tmp 7) (.tmp 20) rfl (.agg (pcC x.p x.V)) ⟨D, 0, none⟩ rfl rfl (by exact HV.out.st) ?_)
        | fail)
      go_ret
      exact ⟨ret_bool HE.out.symm, HR.out.ch.trans HV.out.ch⟩
    · have t3 : (p.ep == x.p.ep) = false := by simpa using q3
      by_cases q4 : x.p.ep < p.ep
      · have t4 : decide (x.p.ep < p.ep) = true := decide_eq_true q4
        have HE := Lib.hid (show fitsP x.p s p = (p.fr == p.seq) by rw [HF.out, if_pos q1, if_neg q3, t4]; rfl)
        clear q1 q3 q4
        go_enter Tryz.func57, Tryz.ntmps57
        go_wp2_with (first
          | ((with_reducible refine wpList_isOp (.box 26 (.tmp 0)) rfl ?_); refine wpList_boxing _ w1 rfl 26 (.tmp 0) rfl (pcC p V) H rfl (by exact HR.out.sz) (by exact HR.out.al) ?_)
          | ((with_reducible refine wpList_isOp (.load 26 (.tmp 19)) rfl ?_); refine wpList_loading _ rfl 26 (.tmp 19) rfl (.agg (pcC x.p x.V)) ⟨b, O, none⟩ (by have hO := HO.out; go_simp) (by exact HLD.out) ?_)
          | ((with_reducible refine wpList_isOp (.alloc 26) rfl ?_); refine wpList_making _ wz rfl 26 rfl (pcC pn0 (.slice none 0 0)) D (zero_pc _) (by exact HV.out.sz) (by exact HV.out.al) ?_)
          | ((with_reducible refine wpList_isOp (.store 26 (.tmp 7) (.tmp 20)) rfl ?_); refine wpList_storing _ wx rfl 26 (.tmp 7) (.tmp 20) rfl (.agg (pcC x.p x.V)) ⟨D, 0, none⟩ rfl rfl (by exact HV.out.st) ?_)
          | fail)
        go_ret
        exact ⟨ret_bool HE.out.symm, HR.out.ch.trans HV.out.ch⟩
      · have t4 : decide (x.p.ep < p.ep) = false := decide_eq_false q4
        have HE := Lib.hid (show fitsP x.p s p = false by rw [HF.out, if_pos q1, if_neg q3, t4]; rfl)
        clear q1 q3 q4
        go_enter Tryz.func57, Tryz.ntmps57
        go_wp2_with (first
          | ((with_reducible refine wpList_isOp (.box 26 (.tmp 0)) rfl ?_); refine wpList_boxing _ w1 rfl 26 (.tmp 0) rfl (pcC p V) H rfl (by exact HR.out.sz) (by exact HR.out.al) ?_)
          | ((with_reducible refine wpList_isOp (.load 26 (.tmp 19)) rfl ?_); refine wpList_loading _ rfl 26 (.tmp 19) rfl (.agg (pcC x.p x.V)) ⟨b, O, none⟩ (by have hO := HO.out; go_simp) (by exact HLD.out) ?_)
          | ((with_reducible refine wpList_isOp (.alloc 26) rfl ?_); refine wpList_making _ wz rfl 26 rfl (pcC pn0 (.slice none 0 0)) D (zero_pc _) (by exact HV.out.sz) (by exact HV.out.al) ?_)
          | ((with_reducible refine wpList_isOp (.store 26 (.tmp 7) (.tmp 20)) rfl ?_); refine wpList_storing _ wx rfl 26 (.tmp 7) (.tmp 20) rfl (.agg (pcC x.p x.V)) ⟨D, 0, none⟩ rfl rfl (by exact HV.out.st) ?_)
          | fail)
        go_ret
        exact ⟨ret_bool HE.out.symm, HR.out.ch.trans HV.out.ch⟩
  · have t1 : (p.ch != s) = true := by simpa using q1
    have HE := Lib.hid (show fitsP x.p s p = false by rw [HF.out, if_neg q1])
    clear q1
    go_enter Tryz.func57, Tryz.ntmps57
    go_wp2_with (first | ((with_reducible refine wpList_isOp (.box 26 (.tmp 0)) rfl ?_); refine wpList_boxing _ w1 rfl 26 (.tmp 0) rfl (pcC p V) H rfl (by exact HR.out.sz) (by exact HR.out.al) ?_))
    go_ret
    exact ⟨ret_bool HE.out.symm, HR.out.ch⟩
end Go.Proofs.YteleknojohnlbaaGreat
namespace Go.Proofs.YteleknojohnlbaaGreat
open Go.RowKit
set_option linter.unusedVariables false
set_option maxRecDepth 100000
end Go.Proofs.YteleknojohnlbaaGreat
namespace Go.Proofs.YteleknojohnlbaaGreat
open Go.ChangeShapes Go.WideShapes Go.ChangeAt Go.RowKit Go.Deep
set_option linter.unusedVariables false
set_option maxRecDepth 100000
theorem Tryz.infoI : (Tryz.prog.info? /-t-/3).map (fun i => (i.zero, i.size, i.bytes)) = some (some (.int .i64 0), 1, 8) := by kernel_rfl
theorem underI : Tryz.prog.underlying 45 = some (.slice /-t-/3) := by kernel_rfl
def numL (k : Nat) (q : Nat → Int) : List Value := (List.range k).map fun c => Value.int .i64 (q c)
theorem numL_get {k c : Nat} {q : Nat → Int} (h : c < k) : (numL k q)[c]? = some (.int .i64 (q c)) := by unfold numL; simp [h]
theorem numL_snoc (k : Nat) (q : Nat → Int) : numL (k + 1) q = numL k q ++ [Value.int .i64 (q k)] := by unfold numL; rw [List.range_succ, List.map_append]; rfl
theorem numL_congr {k : Nat} {q r : Nat → Int} (h : ∀ c, c < k → q c = r c) : numL k q = numL k r := List.map_congr_left fun c hc => by rw [h c (List.mem_range.1 hc)]
def IntV (w : World) (v : Value) (n : Nat) (q : Nat → Int) : Prop :=
  ∃ (A : Option Addr) (C : Nat), v = .slice A n C ∧ (n ≤ 140737488351232 ∧ n ≤ C) ∧ (0 < n → ∃ b o, A = some ⟨b, o, none⟩ ∧ ∀ c, c < n → w.cell? ⟨b, o + c, none⟩ = some (.int .i64 (q c)))
theorem IntV.ch {S : Nat → Prop} {w w' : World} {v : Value} {n : Nat} {q : Nat → Int} (h : IntV w v n q) (k : Ch S w w') (hS : ∀ i, i < w.heap.size → ¬ S i) : IntV w' v n q := by
  obtain ⟨A, C, h1, h2, h3⟩ := h
  refine ⟨A, C, h1, h2, fun hl => ?_⟩
  obtain ⟨b, o, hA, hc⟩ := h3 hl
  exact ⟨b, o, hA, fun c hcl => k.cell (hc c hcl) (hS _ (World.block_lt_of_cell? _ _ (hc c hcl)))⟩
theorem IntV.gr {w w' : World} {v : Value} {n : Nat} {q : Nat → Int} (h : IntV w v n q) (k : Ch (fun _ => False) w w') : IntV w' v n q := h.ch k (fun _ _ f => f)
theorem IntV.at {w : World} {A : Option Addr} {n C : Nat} {q : Nat → Int} (h : IntV w (.slice A n C) n q) (hn : 0 < n) : ∃ b o, A = some ⟨b, o, none⟩ ∧ ∀ c, c < n → w.cell? ⟨b, o + c, none⟩ = some (.int .i64 (q c)) := by
  obtain ⟨_, _, e, _, h3⟩ := h
  injection e with e _ _
  subst e
  exact h3 hn
theorem IntV.len {w : World} {v : Value} {n : Nat} {q : Nat → Int} (h : IntV w v n q) : ∃ A C, v = .slice A n C ∧ n ≤ 140737488351232 := by
  obtain ⟨A, C, h1, h2, _⟩ := h
  exact ⟨A, C, h1, h2.1⟩
theorem none_intV (w : World) (q : Nat → Int) (C : Nat) : IntV w (.slice none 0 C) 0 q := ⟨none, C, rfl, by omega, fun h => absurd h (Nat.lt_irrefl 0)⟩
theorem own_intV {w : World} {base k : Nat} {v : Value} {q : Nat → Int} (h : w.ownsRow base /-t-/3 1 v k (numL k q)) (hk : k ≤ 140737488351232) : IntV w v k q := by
  rcases h.2 with ⟨rfl, h0⟩ | ⟨g, cap, cur, rfl, hb, hgg, hcap, hm, hs, ht⟩
  · subst h0; exact none_intV w q 0
  · refine ⟨_, _, rfl, ⟨hk, hcap⟩, fun _ => ⟨g, 0, rfl, fun c hc => ?_⟩⟩
    have := World.ownsRow.cells h (g := g) rfl c (Value.int .i64 (q c)) (numL_get hc)
    rwa [add_pl] at this
theorem wpList_appI {ops : Array Oper} {rest : List Oper} {o : Oper} {a : Act} {Q : Exit → Act → World → Prop} (w : World) (hgd : o.guard = none) (s x : Operand)
    (ho : o.op = .call { callee := .builtin .append, args := #[s, x], argTypes := #[ 45, 45] }) (hty : o.type = 45) (sv xv v' : Value) (w' : World) (hs : a.eval s = sv) (hx : a.eval x = xv)
    (hrun : (Builtin.append_ #[ 45, 45] 45 #[sv, xv]).run Tryz.prog w = .ok v' w') (h : wpList Tryz.prog ops Q rest (a.put o.dst v') w') : wpList Tryz.prog ops Q (o :: rest) a w := by
  refine wpList_plain hgd fun _ hK => ?_
  unfold Oper.wp execOp
  simp only [ho, hty, resolve, invoke, builtin, Sem.run_bind, Sem.run_pure, Result.andThen_ok, List.map_toArray, List.map_cons, List.map_nil, hs, hx, hrun]
  exact hK _ _ h
structure Nums (w wr : World) (v : Value) (k : Nat) (q : Nat → Int) : Prop where
  own : wr.ownsRow w.heap.size /-t-/3 1 v k (numL k q)
  ch : Ch (fun _ => False) w wr
theorem Nums.start (w : World) (q : Nat → Int) : Nums w w (.slice none 0 0) 0 q := ⟨World.ownsRow_nil w w.heap.size /-t-/3 1, Ch.refl _ w⟩
theorem Nums.app {w wr : World} {v : Value} {k : Nat} {q : Nat → Int} (h : Nums w wr v k q) (hk : k ≤ 1048576) :
    ∃ g cap w2, (∀ x, x = q k → (Builtin.append_ #[ 45, 45] 45 #[v, .slice (some ⟨wr.heap.size, 0, none⟩) 1 1]).run Tryz.prog (wr.alloc (.cells #[.int .i64 x] /-t-/3)) = .ok (.slice (some ⟨g, 0, none⟩) (k + 1) cap) w2) ∧ Nums w w2 (.slice (some ⟨g, 0, none⟩) (k + 1) cap) (k + 1) q := by
  obtain ⟨i0, hi, hz0, hz1, hz2⟩ := info_parts Tryz.infoI
  have k1 : Ch (fun _ => False) wr (wr.alloc (.cells #[.int .i64 (q k)] /-t-/3)) := (Ch.refl _ wr).alloc _ _
  obtain ⟨g, cap, w2, hr, h2, h3, h4, _⟩ := run_append_lies (P := Tryz.prog) (wr.alloc (.cells #[.int .i64 (q k)] /-t-/3)) 45 45 w.heap.size /-t-/3 i0 (.int .i64 0) 1 8 underI hi hz0 hz1 hz2 rfl (by decide) v k (numL k q) (ownsRow_ch h.own k1) ⟨wr.heap.size, 0, none⟩ 1 1 [.int .i64 (q k)] rfl (fun j u hu => by
    rw [add_pl, blk_cell (heap_alloc_new wr _), Nat.zero_add]
    show ([Value.int .i64 (q k)].toArray)[j]? = some u
    rw [List.getElem?_toArray]
    exact hu) (fun u hu => by rw [List.mem_singleton.1 hu]; rfl) (by omega) (by unfold maxLen; omega) (by omega) (Nat.le_trans h.ch.size k1.size) _ rfl
  rw [← numL_snoc] at h2
  refine ⟨g, cap, w2, fun x hx => by subst hx; exact hr, h2, ?_⟩
  have kc := h.ch.trans k1
  have k2 : Ch (fun i => v.ownBlock = some i) (wr.alloc (.cells #[.int .i64 (q k)] /-t-/3)) w2 := (Ch.refl _ _).grown h3 (fun i hi => Or.inl hi)
  refine kc.new (k2.mono fun i _ hi => ?_)
  exact (own_at h.own hi).1
end Go.Proofs.YteleknojohnlbaaGreat
namespace Go.Proofs.YteleknojohnlbaaGreat
open Go.RowKit
set_option linter.unusedVariables false
set_option maxRecDepth 100000
set_option maxHeartbeats 1600000 in
theorem rgmay_any (g : Ge) (w : World) : Calls Tryz.prog 38 #[.agg (geC g)] w (Ans (.bool (mayG g)) w) := by
  obtain ⟨w1, H, hR⟩ := geR w g
  obtain ⟨x0, x1, x2, x3⟩ := hR.x
  have HR := Lib.hid hR
  clear hR
  cases t1 : mayG g
  · obtain ⟨a, b, c, d⟩ := g
    simp only at x0 x1 x2 x3
    have hcase : (a < 8 ∨ (8 ≤ a ∧ 512 < a)) ∨ ((8 ≤ a ∧ a ≤ 512) ∧ (b < 1 ∨ (1 ≤ b ∧ 32 < b))) ∨ ((8 ≤ a ∧ a ≤ 512) ∧ (1 ≤ b ∧ b ≤ 32) ∧ (c < 1 ∨ (1 ≤ c ∧ 16 < c))) ∨ ((8 ≤ a ∧ a ≤ 512) ∧ (1 ≤ b ∧ b ≤ 32) ∧ (1 ≤ c ∧ c ≤ 16) ∧ (d < 1 ∨ (1 ≤ d ∧ 8 < d))) := by
      have h2 : ¬ ((8 ≤ a ∧ a ≤ 512) ∧ (1 ≤ b ∧ b ≤ 32) ∧ (1 ≤ c ∧ c ≤ 16) ∧ (1 ≤ d ∧ d ≤ 8)) := fun q => by
        have : mayG ⟨a, b, c, d⟩ = true := by
          rw [mayG_eq]
          simp only [Bool.and_eq_true, inB_true]
          exact q
        rw [t1] at this
        cases this
      omega
    have HC := Lib.hid hcase
    clear hcase t1
    rcases HC.out with (h | ⟨h, k⟩) | ⟨⟨p1, p2⟩, (h | ⟨h, k⟩)⟩ | ⟨⟨p1, p2⟩, ⟨p3, p4⟩, (h | ⟨h, k⟩)⟩ | ⟨⟨p1, p2⟩, ⟨p3, p4⟩, ⟨p5, p6⟩, (h | ⟨h, k⟩)⟩
    all_goals (
      clear HC
      go_enter Tryz.func38, Tryz.ntmps38
      go_wp2_with ((with_reducible refine wpList_isOp (.box 23 (.tmp 0)) rfl ?_); refine wpList_boxing _ w1 rfl 23 (.tmp 0) rfl (geC ⟨a, b, c, d⟩) H rfl (by exact HR.out.sz) (by exact HR.out.al) ?_)
      go_ret
      exact ⟨rfl, HR.out.ch⟩)
  · obtain ⟨n, hn, rfl⟩ := may_nat t1
    obtain ⟨⟨p1, p2⟩, ⟨p3, p4⟩, ⟨p5, p6⟩, ⟨p7, p8⟩⟩ := may_parts t1
    have HD := Lib.hid (show decide (wrap64 (4 + 2 * n.ge.wal + wrap64 (2 * n.ge.st * (n.ge.k + n.ge.m))) ≤ 4096) = true by
      have b1 := hn.tot2
      have b2 := hn.t2
      have e0 : n.ge.st * (n.ge.k + n.ge.m) = ((n.S * n.q : Nat) : Int) := by unfold Gn.q; rw [Int.natCast_mul, Int.natCast_add]; rfl
      rw [Int.mul_assoc, e0, IntWalk.wrap64_in (2 * ((n.S * n.q : Nat) : Int)) ⟨by omega, by omega⟩, IntWalk.wrap64_in _ ⟨by omega, by omega⟩]
      exact decide_eq_true (by omega))
    clear hn t1
    go_enter Tryz.func38, Tryz.ntmps38
    go_wp2_with ((with_reducible refine wpList_isOp (.box 23 (.tmp 0)) rfl ?_); refine wpList_boxing _ w1 rfl 23 (.tmp 0) rfl (geC n.ge) H rfl (by exact HR.out.sz) (by exact HR.out.al) ?_)
    go_ret
    exact ⟨ret_bool HD.out, HR.out.ch⟩
end Go.Proofs.YteleknojohnlbaaGreat
namespace Go.Proofs.YteleknojohnlbaaGreat
open Go.RowKit Go.Shelf Cod
set_option linter.unusedVariables false
set_option maxRecDepth 100000
theorem one_owned (w : World) {x : Int} {y : Nat} (h : x = (y : Int)) : (w.alloc (.cells #[.int .u8 x] /-t-/5)).ownsRow w.heap.size /-t-/5 1 (.slice (some ⟨w.heap.size, 0, none⟩) 1 1) 1 (bytesL 1 (Cod.litZ [y])) := by
  subst h
  exact ⟨rfl, Or.inr ⟨w.heap.size, 1, #[.int .u8 (y : Int)], rfl, Nat.le_refl _, heap_alloc_new w _, Nat.le_refl _, (by unfold maxLen; omega), rfl, rfl⟩⟩
def DigAt (half : Nat) : Prop := ∀ (odd : Nat) (w : World), odd ≤ 1 → Calls Tryz.prog 78 #[.int .i64 (half : Int), .int .i64 (odd : Int)] w (NewL (digs (2 * half + odd)).length (Cod.litZ (digs (2 * half + odd))) w)
set_option maxHeartbeats 400000 in
theorem rnum_of (n : Nat) (hn : n ≤ 9223372036854775807) (h : DigAt (n / 2)) (w : World) : Calls Tryz.prog 45 #[.int .i64 (n : Int)] w (NewL (digs n).length (Cod.litZ (digs n)) w) := by
  have H := Lib.hid (h (n % 2) w (by omega))
  rw [show 2 * (n / 2) + n % 2 = n by omega] at H
  have e1 : ((n / 2 : Nat) : Int) = (n : Int) / 2 := by omega
  have e2 : ((n % 2 : Nat) : Int) = (n : Int) % 2 := by omega
  rw [e1, e2] at H
  clear h e1 e2
  go_enter Tryz.func45, Tryz.ntmps45
  go_wp2_with fail
  refine H.out.mono ?_
  rintro e w1 ⟨v, rfl, h1, h2⟩
  have H1 := Lib.hid h1
  have H2 := Lib.hid h2
  clear h1 h2
  go_wp2
  go_ret
  exact ⟨_, rfl, H1.out, H2.out⟩
set_option maxHeartbeats 1000000 in
theorem rdigits_all (half : Nat) : half ≤ 9223372036854775807 → DigAt half := by
  induction half using Nat.strongRecOn with
  | _ half ih =>
    intro hh odd w ho
    by_cases hs : half < 64
    · rw [digs_small (show 2 * half + odd < 128 by omega)]
      have HO := Lib.hid (one_owned w (x := 2 * (half : Int) + (odd : Int)) (y := 2 * half + odd) (by omega))
      have t1 : decide ((half : Int) < 64) = true := by simp; omega
      clear ih
      go_enter Tryz.func78, Tryz.ntmps78
      go_wp2
      go_ret
      exact ⟨_, rfl, HO.out, (Ch.refl _ w).alloc _ _⟩
    · have t1 : decide ((half : Int) < 64) = false := by simp; omega
      have HN := Lib.hid (fun w : World => rnum_of (half / 64) (by omega) (ih (half / 64 / 2) (by omega) (by omega)) w)
      have HD := Lib.hid (digs_big (n := 2 * half + odd) (by omega))
      rw [show (2 * half + odd) % 128 + 128 = 2 * (half % 64) + odd + 128 by omega, show (2 * half + odd) / 128 = half / 64 by omega] at HD
      have e1 : ((half / 64 : Nat) : Int) = (half : Int) / 64 := by omega
      have HO := Lib.hid (one_owned w (x := 2 * ((half : Int) % 64) + (odd : Int) + 128) (y := 2 * (half % 64) + odd + 128) (by omega))
      have hlen := digs_len10 (n := half / 64) (by omega)
      clear ih
      go_enter Tryz.func78, Tryz.ntmps78
      go_wp2_with fail
      rw [← e1]
      refine (HN.out _).mono ?_
      rintro e w1 ⟨v, rfl, h1, h2⟩
      have hr := ownsRow_rowV h1 (by omega) (fun c _ => litZ_b (digs_b _) c)
      obtain ⟨v2, w2, hr2, ho2, hg2, _⟩ := app_row (ownsRow_ch HO.out h2) (by have := h2.size; simp at this; omega) hr (by omega)
      have hlit : bytesL (1 + (digs (half / 64)).length) (jnZ 1 (Cod.litZ [2 * (half % 64) + odd + 128]) (Cod.litZ (digs (half / 64)))) = bytesL (digs (2 * half + odd)).length (Cod.litZ (digs (2 * half + odd))) := by
        rw [HD.out, List.length_cons, Nat.add_comm 1]
        exact bytesL_congr fun c hc => litZ_app [2 * (half % 64) + odd + 128] _ c
      have hl2 : 1 + (digs (half / 64)).length = (digs (2 * half + odd)).length := by rw [HD.out, List.length_cons, Nat.add_comm]
      rw [hlit, hl2] at ho2
      have HR := Lib.hid hr2
      have H2 := Lib.hid ho2
      have HC := Lib.hid ((((Ch.refl (fun _ => False) w).alloc #[.int .u8 (2 * ((half : Int) % 64) + (odd : Int) + 128)] /-t-/5).trans h2).grown hg2 (fun i e => Or.inr (World.ownsRow.lt (ownsRow_ch HO.out h2) i e).1))
      clear hr hr2 ho2 hg2 h1 h2 hlit hl2 hlen
      go_wp2_with (at_builtin; refine wpList_app_of _ rfl (.tmp 20) (.tmp 23) rfl rfl _ _ v2 w2 rfl rfl HR.out ?_)
      go_ret
      exact ⟨_, rfl, H2.out, HC.out⟩
theorem rnum_any (n : Nat) (hn : n ≤ 9223372036854775807) (w : World) : Calls Tryz.prog 45 #[.int .i64 (n : Int)] w (NewL (digs n).length (Cod.litZ (digs n)) w) := rnum_of n hn (rdigits_all _ (by omega)) w
set_option maxHeartbeats 400000 in
theorem rbytes_any (A : Option Addr) (l C : Nat) (z : Nat → Nat) (w : World) (hl : l ≤ 4096) (h : RowV w (.slice A l C) l z) : Calls Tryz.prog 46 #[.slice A l C] w fun e w' => ∃ v, e = .returned (.tuple #[v, .int .i64 0]) ∧ w'.ownsRow w.heap.size /-t-/5 1 v (byL l z).length (bytesL (byL l z).length (Cod.litZ (byL l z))) ∧ Ch (fun _ => False) w w' := by
  have H := Lib.hid (rnum_any l (by omega) w)
  have HX := Lib.hid h
  have t1 : decide ((4096 : Int) < (l : Int)) = false := by simp; omega
  clear h
  go_enter Tryz.func46, Tryz.ntmps46
  go_wp2_with fail
  refine H.out.mono ?_
  rintro e w1 ⟨v1, rfl, h1, h2⟩
  have hlen := digs_len10 (n := l) (by omega)
  obtain ⟨v2, w2, hr2, ho2, hg2, _⟩ := app_row h1 h2.size (HX.out.gr h2) (by omega)
  rw [app_lit, ← rowL_len l z, ← List.length_append] at ho2
  have HR := Lib.hid hr2
  have H2 := Lib.hid (show w2.ownsRow w.heap.size /-t-/5 1 v2 (byL l z).length (bytesL (byL l z).length (Cod.litZ (byL l z))) by unfold byL; rw [rowL_len] at ho2; exact ho2)
  have HC := Lib.hid (h2.grown hg2 (fun i e => Or.inr (World.ownsRow.lt h1 i e).1))
  clear hr2 ho2 hg2 h1 h2 hlen
  go_wp2_with (at_builtin; refine wpList_app_of _ rfl (.tmp 9) (.tmp 10) rfl rfl _ _ v2 w2 rfl rfl HR.out ?_)
  go_ret2
  exact ⟨_, rfl, H2.out, HC.out⟩
end Go.Proofs.YteleknojohnlbaaGreat
