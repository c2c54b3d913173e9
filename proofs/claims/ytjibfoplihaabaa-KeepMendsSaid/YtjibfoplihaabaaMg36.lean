/-
  Rows of ints in memory: rows that are read, rows of one's own, a number behind them; rows that are handed in, opened. Faults, what is wanted, and ints that are handed in, opened; the laws, said of what is handed in. bytes.Equal, walked.
-/
import Derived.Test.YtjibfoplihaabaaMg2
import Derived.Test.YtjibfoplihaabaaMg3
import Derived.Test.YtjibfoplihaabaaMg12
import Derived.Test.YtjibfoplihaabaaMg35
namespace Go.Proofs.Ytjibfoplihaabaa
open Go.ChangeShapes Go.WideShapes Go.ChangeAt Go.RowKit Go.Deep
set_option linter.unusedVariables false
set_option maxRecDepth 100000

theorem Try.infoI : (Try.prog.info? /-t-/3).map (fun i => (i.zero, i.size, i.bytes)) = some (some (.int .i64 0), 1, 8) := by kernel_rfl
theorem underI : Try.prog.underlying 39 = some (.slice /-t-/3) := by kernel_rfl
theorem underN : Try.prog.underlying /-t-/3 = some (.int .i64) := by kernel_rfl
/-! ### lists of ints -/
def numL (k : Nat) (q : Nat → Int) : List Value := (List.range k).map fun c => Value.int .i64 (q c)
theorem numL_len (k : Nat) (q : Nat → Int) : (numL k q).length = k := by unfold numL; simp
theorem numL_get {k c : Nat} {q : Nat → Int} (h : c < k) : (numL k q)[c]? = some (.int .i64 (q c)) := by unfold numL; simp [h]
theorem numL_none {k c : Nat} {q : Nat → Int} (h : ¬ c < k) : (numL k q)[c]? = none := List.getElem?_eq_none (by rw [numL_len]; omega)
theorem numL_one {k : Nat} {q : Nat → Int} : ∀ u ∈ numL k q, u.oneCell' = true := fun u hu => by
  unfold numL at hu; obtain ⟨c, _, rfl⟩ := List.mem_map.1 hu; rfl
theorem numL_snoc (k : Nat) (q : Nat → Int) : numL (k + 1) q = numL k q ++ [Value.int .i64 (q k)] := by unfold numL; rw [List.range_succ, List.map_append]; rfl
theorem numL_congr {k : Nat} {q r : Nat → Int} (h : ∀ c, c < k → q c = r c) : numL k q = numL k r := List.map_congr_left fun c hc => by rw [h c (List.mem_range.1 hc)]

/-! ### a row, to be read -/
def IntV (w : World) (v : Value) (n : Nat) (q : Nat → Int) : Prop :=
  ∃ (A : Option Addr) (C : Nat), v = .slice A n C ∧ (n ≤ 140737488351232 ∧ n ≤ C) ∧ (0 < n → ∃ b o, A = some ⟨b, o, none⟩ ∧ ∀ c, c < n → w.cell? ⟨b, o + c, none⟩ = some (.int .i64 (q c)))
theorem IntV.ch {S : Nat → Prop} {w w' : World} {v : Value} {n : Nat} {q : Nat → Int} (h : IntV w v n q) (k : Ch S w w') (hS : ∀ i, i < w.heap.size → ¬ S i) : IntV w' v n q := by
  obtain ⟨A, C, h1, h2, h3⟩ := h
  refine ⟨A, C, h1, h2, fun hl => ?_⟩
  obtain ⟨b, o, hA, hc⟩ := h3 hl
  exact ⟨b, o, hA, fun c hcl => k.cell (hc c hcl) (hS _ (World.block_lt_of_cell? _ _ (hc c hcl)))⟩
theorem IntV.gr {w w' : World} {v : Value} {n : Nat} {q : Nat → Int} (h : IntV w v n q) (k : Ch (fun _ => False) w w') : IntV w' v n q := h.ch k (fun _ _ f => f)
theorem IntV.congr {w : World} {v : Value} {n : Nat} {q r : Nat → Int} (h : IntV w v n q) (e : ∀ c, c < n → q c = r c) : IntV w v n r := by
  obtain ⟨A, C, h1, h2, h3⟩ := h
  refine ⟨A, C, h1, h2, fun hl => ?_⟩
  obtain ⟨b, o, hA, hc⟩ := h3 hl
  exact ⟨b, o, hA, fun c hcl => by rw [← e c hcl]; exact hc c hcl⟩
theorem IntV.at {w : World} {A : Option Addr} {n C : Nat} {q : Nat → Int} (h : IntV w (.slice A n C) n q) (hn : 0 < n) : ∃ b o, A = some ⟨b, o, none⟩ ∧ ∀ c, c < n → w.cell? ⟨b, o + c, none⟩ = some (.int .i64 (q c)) := by
  obtain ⟨_, _, e, _, h3⟩ := h
  injection e with e _ _
  subst e
  exact h3 hn
theorem IntV.len {w : World} {v : Value} {n : Nat} {q : Nat → Int} (h : IntV w v n q) : ∃ A C, v = .slice A n C ∧ n ≤ 140737488351232 := by
  obtain ⟨A, C, h1, h2, _⟩ := h
  exact ⟨A, C, h1, h2.1⟩
theorem none_intV (w : World) (q : Nat → Int) (C : Nat) : IntV w (.slice none 0 C) 0 q := ⟨none, C, rfl, by omega, fun h => absurd h (Nat.lt_irrefl 0)⟩
theorem own_intV {w : World} {base k : Nat} {v : Value} {q : Nat → Int} (h : w.ownsRow base /-t-/3 1 v k (numL k q)) (hk : k ≤ 140737488351232) : IntV w v k q := by
  rcases h.2 with ⟨rfl, h0⟩ | ⟨g, cap, cur, rfl, hb, hgg, hcap, hm, hs, ht⟩
  · subst h0; exact none_intV w q 0
  · refine ⟨_, _, rfl, ⟨hk, hcap⟩, fun _ => ⟨g, 0, rfl, fun c hc => ?_⟩⟩
    have := World.ownsRow.cells h (g := g) rfl c (Value.int .i64 (q c)) (numL_get hc)
    rwa [add_pl] at this
/-- A row that was written out, or made, in a block of its own. -/
theorem row_intV {w : World} {b n : Nat} {q : Nat → Int} (h : w.rowIs b /-t-/3 n (fun i => .int .i64 (q i))) (hn : n ≤ 140737488351232) : IntV w (.slice (some ⟨b, 0, none⟩) n n) n q :=
  ⟨_, _, rfl, ⟨hn, Nat.le_refl _⟩, fun _ => ⟨b, 0, rfl, fun c hc => by rw [Nat.zero_add]; exact h.cell hc⟩⟩
theorem made_int (n : Nat) (w : World) (hn : n ≤ 1048576) : (Instr.makeSlice 39 (.int .i64 (n : Int)) (.int .i64 (n : Int))).run Try.prog w = .ok (.slice (some ⟨w.heap.size, 0, none⟩) n n) (w.alloc (.cells (madeCells #[.int .i64 0] n) /-t-/3)) := by
  obtain ⟨i0, hi, hz0, hz1, hz2⟩ := info_parts Try.infoI
  have := run_make (P := Try.prog) w 39 /-t-/3 i0 (.int .i64 0) underI hi hz0 .i64 .i64 n n (by omega) (by omega) (by rw [hz2]; omega) (by omega)
  rw [hz1, Int.toNat_natCast, Nat.mul_one] at this
  exact this
theorem made_row (n : Nat) (w : World) : (w.alloc (.cells (madeCells #[.int .i64 0] n) /-t-/3)).rowIs w.heap.size /-t-/3 n (fun _ => .int .i64 0) := World.rowIs_made w (.int .i64 0) n /-t-/3

/-! ### a number behind them -/
theorem wpList_appI {ops : Array Oper} {rest : List Oper} {o : Oper} {a : Act} {Q : Exit → Act → World → Prop} (w : World) (hgd : o.guard = none) (s x : Operand)
    (ho : o.op = .call { callee := .builtin .append, args := #[s, x], argTypes := #[ 39, 39] }) (hty : o.type = 39) (sv xv v' : Value) (w' : World) (hs : a.eval s = sv) (hx : a.eval x = xv)
    (hrun : (Builtin.append_ #[ 39, 39] 39 #[sv, xv]).run Try.prog w = .ok v' w') (h : wpList Try.prog ops Q rest (a.put o.dst v') w') : wpList Try.prog ops Q (o :: rest) a w := by
  refine wpList_plain hgd fun _ hK => ?_
  unfold Oper.wp execOp
  simp only [ho, hty, resolve, invoke, builtin, Sem.run_bind, Sem.run_pure, Result.andThen_ok, List.map_toArray, List.map_cons, List.map_nil, hs, hx, hrun]
  exact hK _ _ h
/-- Numbers that a call has gathered, one behind the other, since 'w'. -/
structure Nums (w wr : World) (v : Value) (k : Nat) (q : Nat → Int) : Prop where
  own : wr.ownsRow w.heap.size /-t-/3 1 v k (numL k q)
  ch : Ch (fun _ => False) w wr
theorem Nums.start (w : World) (q : Nat → Int) : Nums w w (.slice none 0 0) 0 q := ⟨World.ownsRow_nil w w.heap.size /-t-/3 1, Ch.refl _ w⟩
theorem Nums.app {w wr : World} {v : Value} {k : Nat} {q : Nat → Int} (h : Nums w wr v k q) (hk : k ≤ 1048576) :
    ∃ g cap w2, (∀ x, x = q k → (Builtin.append_ #[ 39, 39] 39 #[v, .slice (some ⟨wr.heap.size, 0, none⟩) 1 1]).run Try.prog (wr.alloc (.cells #[.int .i64 x] /-t-/3)) = .ok (.slice (some ⟨g, 0, none⟩) (k + 1) cap) w2) ∧ Nums w w2 (.slice (some ⟨g, 0, none⟩) (k + 1) cap) (k + 1) q := by
  obtain ⟨i0, hi, hz0, hz1, hz2⟩ := info_parts Try.infoI
  have k1 : Ch (fun _ => False) wr (wr.alloc (.cells #[.int .i64 (q k)] /-t-/3)) := (Ch.refl _ wr).alloc _ _
  obtain ⟨g, cap, w2, hr, h2, h3, h4, _⟩ := run_append_lies (P := Try.prog) (wr.alloc (.cells #[.int .i64 (q k)] /-t-/3)) 39 39 w.heap.size /-t-/3 i0 (.int .i64 0) 1 8 underI hi hz0 hz1 hz2 rfl (by decide) v k (numL k q) (ownsRow_ch h.own k1) ⟨wr.heap.size, 0, none⟩ 1 1 [.int .i64 (q k)] rfl (fun j u hu => by
    rw [add_pl, blk_cell (heap_alloc_new wr _), Nat.zero_add]
    show ([Value.int .i64 (q k)].toArray)[j]? = some u
    rw [List.getElem?_toArray]
    exact hu) (fun u hu => by rw [List.mem_singleton.1 hu]; rfl) (by omega) (by unfold maxLen; omega) (by omega) (Nat.le_trans h.ch.size k1.size) _ rfl
  rw [← numL_snoc] at h2
  refine ⟨g, cap, w2, fun x hx => by subst hx; exact hr, h2, ?_⟩
  have kc := h.ch.trans k1
  have k2 : Ch (fun i => v.ownBlock = some i) (wr.alloc (.cells #[.int .i64 (q k)] /-t-/3)) w2 := (Ch.refl _ _).grown h3 (fun i hi => Or.inl hi)
  refine kc.new (k2.mono fun i _ hi => ?_)
  exact (own_at h.own hi).1
#print axioms Nums.app

/-! ### a row that is handed in -/
theorem cellsN : Try.prog.cellsOf /-t-/3 = 1 := by kernel_rfl
theorem bytesN : Try.prog.bytesOf /-t-/3 = 8 := by kernel_rfl
theorem open_ints_arg {H : Type} {enc : TypeId × Value → H} {W : World} {v : Value} {d : DataW H} {p : List MemPlace} (hv : ∃ a len cap, v = .slice a len cap) (h : DataW.Trod enc Try.prog W 0 (fun _ => true) true 39 v d p)
    (s1 : ∀ elems spare, d = .slice elems spare → (elems.length + spare.length) * 8 ≤ reachBytes) : ∃ n q, IntV W v n q := by
  obtain ⟨a0, len, cap, rfl⟩ := hv
  obtain ⟨fuel, hf⟩ := h
  rcases open_ints underI underN cellsN hf with ⟨hcs0, hx⟩ | ⟨a, len', cap', zs, hcs0, _, hl, hm, hzl, hx, hcell, hwf⟩
  · simp [Value.cells] at hcs0
    obtain ⟨rfl, rfl, rfl⟩ := hcs0
    exact ⟨0, fun _ => 0, none_intV W _ 0⟩
  · simp [Value.cells] at hcs0
    obtain ⟨rfl, rfl, rfl⟩ := hcs0
    simp only [Prod.mk.injEq] at hx
    obtain ⟨rfl, rfl⟩ := hx
    simp only [if_true] at hzl
    have hlen := s1 _ _ rfl
    simp only [lits, List.length_map, List.length_take, List.length_drop, hzl, reach_eq] at hlen
    refine ⟨len, fun c => zs.getD c 0, some a, cap, rfl, by omega, fun h0 => ?_⟩
    obtain ⟨b, o, rfl⟩ := addr_none (hcell 0 (by omega))
    exact ⟨b, o, rfl, fun c hc => by have hcc := hcell c (by omega); rwa [add_pl] at hcc⟩
#print axioms open_ints_arg
end Go.Proofs.Ytjibfoplihaabaa
namespace Go.Proofs.Ytjibfoplihaabaa
open Go.ChangeShapes Go.WideShapes Go.ChangeAt Go.RowKit Go.Deep
set_option linter.unusedVariables false
set_option maxRecDepth 100000

theorem cellsFa : Try.prog.cellsOf 45 = 9 := by kernel_rfl
theorem cellsWa : Try.prog.cellsOf 73 = 2 := by kernel_rfl
def fa0 : Fa := ⟨0, 0, 0, 0, 0, 0, 0, 0, 0⟩
theorem open_faults {H : Type} {enc : TypeId × Value → H} {W : World} {v : Value} {d : DataW H} {p : List MemPlace} (hv : ∃ a len cap, v = .slice a len cap) (h : DataW.Trod enc Try.prog W 0 (fun _ => true) true 22 v d p) :
    ∃ (A : Option Addr) (C m : Nat) (g : Nat → Fa), v = .slice A m C ∧ RowF W A m g := by
  obtain ⟨A, C, m, g, rfl, h1, h2⟩ := open_structs (α := Fa) 9 Try.underlying22 cellsFa (by decide) (FauAt W) fa0 (fun cs y fuel hcl ht => by
    obtain ⟨f, hok, e⟩ := fault_of ht
    refine ⟨f, fun b o hc => ⟨fun j u hu => hc j u ?_, hok⟩⟩
    rw [e, Array.getElem?_toList]
    exact hu) hv h
  exact ⟨A, C, m, g, rfl, h1, h2⟩
theorem open_wants {H : Type} {enc : TypeId × Value → H} {W : World} {v : Value} {d : DataW H} {p : List MemPlace} (hv : ∃ a len cap, v = .slice a len cap) (h : DataW.Trod enc Try.prog W 0 (fun _ => true) true 23 v d p) :
    ∃ (A : Option Addr) (C m : Nat) (g : Nat → WantD), v = .slice A m C ∧ RowW W A m g := by
  obtain ⟨A, C, m, g, rfl, h1, h2⟩ := open_structs (α := WantD) 2 Try.underlying23 cellsWa (by decide) (WantAt W) ⟨0, 0⟩ (fun cs y fuel hcl ht => by
    obtain ⟨ys, n', hn', hy, hlen', hyl, hfl⟩ := DataW.trod_struct Try.underlying73 ht
    match cs, hcl with
    | [x0, x1], _ =>
      have g0 : DataW.trod enc Try.prog W 0 (fun _ => true) true n' 3 [x0] = ys[0]? := hfl 0 _ rfl
      have g1 : DataW.trod enc Try.prog W 0 (fun _ => true) true n' 5 [x1] = ys[1]? := hfl 1 _ rfl
      have hys : ys.length = 2 := hyl
      match ys, hys with
      | [y0, y1], _ =>
        obtain ⟨a0, e0, _, w0⟩ := DataW.trod_int Try.underlying3 g0
        obtain ⟨a1, e1, _, w1⟩ := DataW.trod_int Try.underlying5 g1
        have hb := b8 w1
        simp only [List.cons.injEq, and_true] at e0 e1
        subst e0
        subst e1
        refine ⟨⟨a0, a1.toNat⟩, fun b o hc => ⟨hc 0 _ rfl, ?_, by show a1.toNat < 256; omega, b64 w0⟩⟩
        rw [hc 1 _ rfl]
        show some (Value.int .u8 a1) = some (Value.int .u8 ((a1.toNat : Nat) : Int))
        rw [Int.toNat_of_nonneg hb.1]) hv h
  exact ⟨A, C, m, g, rfl, h1, h2⟩
theorem open_int64s {H : Type} {enc : TypeId × Value → H} {W : World} {v : Value} {d : DataW H} {p : List MemPlace} (hv : ∃ a len cap, v = .slice a len cap) (h : DataW.Trod enc Try.prog W 0 (fun _ => true) true 39 v d p)
    (s1 : ∀ elems spare, d = .slice elems spare → (elems.length + spare.length) * 8 ≤ reachBytes) : ∃ (A : Option Addr) (C n : Nat) (q : Nat → Int), v = .slice A n C ∧ IntV W (.slice A n C) n q ∧ ∀ i, i < n → I64 (q i) := by
  obtain ⟨a0, len, cap, rfl⟩ := hv
  obtain ⟨fuel, hf⟩ := h
  rcases open_ints underI underN cellsN hf with ⟨hcs0, hx⟩ | ⟨a, len', cap', zs, hcs0, _, hl, hm, hzl, hx, hcell, hwf⟩
  · simp [Value.cells] at hcs0
    obtain ⟨rfl, rfl, rfl⟩ := hcs0
    exact ⟨none, 0, 0, fun _ => 0, rfl, none_intV W _ 0, fun i hi => absurd hi (Nat.not_lt_zero i)⟩
  · simp [Value.cells] at hcs0
    obtain ⟨rfl, rfl, rfl⟩ := hcs0
    simp only [Prod.mk.injEq] at hx
    obtain ⟨rfl, rfl⟩ := hx
    simp only [if_true] at hzl
    have hlen := s1 _ _ rfl
    simp only [lits, List.length_map, List.length_take, List.length_drop, hzl, reach_eq] at hlen
    refine ⟨some a, cap, len, fun c => zs.getD c 0, rfl, ⟨some a, cap, rfl, by omega, fun h0 => ?_⟩, fun i hi => ?_⟩
    · obtain ⟨b, o, rfl⟩ := addr_none (hcell 0 (by omega))
      exact ⟨b, o, rfl, fun c hc => by have hcc := hcell c (by omega); rwa [add_pl] at hcc⟩
    · have hi2 : i < zs.length := by omega
      have : zs.getD i 0 ∈ zs := by
        rw [List.getD_eq_getElem?_getD, List.getElem?_eq_getElem hi2]
        exact List.getElem_mem hi2
      exact b64 (hwf _ this)
#print axioms open_faults
#print axioms open_wants
#print axioms open_int64s
end Go.Proofs.Ytjibfoplihaabaa
namespace Go.Proofs.Ytjibfoplihaabaa
open Go.RowKit
set_option linter.unusedVariables false
set_option maxRecDepth 100000

/-! ### Equal -/
theorem text_eqB {n m : Nat} {z y : Nat → Nat} (hz : Bytes n z) (hy : Bytes m y) : ((textOf n z).toList == (textOf m y).toList) = eqB n m z y := by
  rw [ByteArray.toList_eq, ByteArray.toList_eq]
  have e : ((textOf n z).data.toList == (textOf m y).data.toList) = decide (textOf n z = textOf m y) := by
    rw [Bool.eq_iff_iff, beq_iff_eq, decide_eq_true_iff]
    exact ⟨fun h => ByteArray.ext (Array.ext' h), fun h => by rw [h]⟩
  rw [e]
  unfold eqB
  rw [decide_eq_decide]
  exact text_inj hz hy
theorem equal_any (A B : Option Addr) (n m C D : Nat) (z y : Nat → Nat) (w : World) (h : RowV w (.slice A n C) n z) (h2 : RowV w (.slice B m D) m y) : Calls Try.prog 57 #[.slice A n C, .slice B m D] w fun e w' => e = .returned (.bool (eqB n m z y)) ∧ w = w' := by
  have c1 := row_text h
  have c2 := row_text h2
  have HE := Lib.hid (text_eqB h.bytes h2.bytes)
  obtain ⟨S, hS⟩ : ∃ S, S = textOf n z := ⟨_, rfl⟩
  obtain ⟨T, hT⟩ : ∃ T, T = textOf m y := ⟨_, rfl⟩
  rw [← hS] at c1 HE
  rw [← hT] at c2 HE
  clear h h2 hS hT
  go_enter Try.func57, Try.ntmps57
  go_wp2
  go_ret
  exact ⟨ret_bool HE.out, rfl⟩
#print axioms equal_any

end Go.Proofs.Ytjibfoplihaabaa
